/- The walk of SealSpoilt: a frame is refused for its sum, when up to four neighbouring bytes of its body or its sum are other ones. -/
import Derived.Test.YtcfmgoocaheaiaaCut
import Derived.BigRegion
namespace Go.Proofs.Ytcfmgoocaheaiaa
open Go.RowKit Crc

/-- At block b lie these bytes, free to be written. -/
def Bw (w : World) (b : Nat) (bs : List UInt8) : Prop := ∃ cs fr, w.heap[b]? = some (.cells cs 5 fr) ∧ bs.length ≤ fr.1 ∧ bs.length ≤ cs.size ∧ ∀ j (h : j < bs.length), cs[j]? = some (B bs[j])
namespace Bw
variable {w w1 : World} {b : Nat} {bs : List UInt8}
theorem lt (h : Bw w b bs) : b < w.heap.size := by obtain ⟨cs, fr, h1, _⟩ := h; exact lt_of_block h1
theorem cell (h : Bw w b bs) {j : Nat} (hj : j < bs.length) : w.cell? ⟨b, j, none⟩ = some (B bs[j]) := by
  obtain ⟨cs, fr, h1, h2, h3, h4⟩ := h
  rw [cell_of_row w b j cs _ fr h1]
  exact h4 j hj
theorem frozen (h : Bw w b bs) {j : Nat} (hj : j < bs.length) : w.frozen? ⟨b, j, none⟩ = false := by
  obtain ⟨cs, fr, h1, h2, h3, h4⟩ := h
  obtain ⟨lo, hi⟩ := fr
  simp only [World.frozen?, h1]
  have : ¬ lo ≤ j := by have : bs.length ≤ lo := h2; omega
  simp [this]
theorem fr {S : Nat → Prop} (h : Bw w b bs) (f : Fr S w w1) (hn : ¬ S b) : Bw w1 b bs := by
  obtain ⟨cs, fr, h1, h2⟩ := h
  exact ⟨cs, fr, (f.block b (lt_of_block h1) hn).trans h1, h2⟩
theorem set (h : Bw w b bs) {j : Nat} (y : UInt8) : Bw (w.setCell ⟨b, j, none⟩ (B y)) b (bs.set j y) := by
  obtain ⟨cs, fr, h1, h2, h3, h4⟩ := h
  refine ⟨cs.setIfInBounds j (B y), fr, ?_, by rw [List.length_set]; exact h2, by rw [List.length_set, Array.size_setIfInBounds]; exact h3, fun i hi => ?_⟩
  · simp [World.setCell, Array.getElem?_modify, h1]
  · rw [List.length_set] at hi
    by_cases hij : j = i
    · subst hij
      rw [Array.getElem?_setIfInBounds_self, if_pos (by omega), List.getElem_set_self]
    · rw [Array.getElem?_setIfInBounds_ne hij, List.getElem_set_ne hij]
      exact h4 i hi
theorem text (h : Bw w b bs) {n : Nat} (c : Nat) (hn : bs.length = n) : (convert 24 9 (.slice (some ⟨b, 0, none⟩) n c)).run Try.prog w = .ok (.string ⟨bs.toArray⟩) w := by
  subst hn
  refine run_convert_bytes_back _ _ _ _ ⟨b, 0, none⟩ c bs Try.underlying24 Try.underlying5 Try.underlying9 fun j hj => ?_
  have e1 : (⟨b, 0, none⟩ : Addr).add j = ⟨b, j, none⟩ := by unfold Addr.add; split <;> simp_all
  rw [e1]
  exact h.cell hj
/-- what '[]byte(t)' lays -/
theorem new (w : World) (t : ByteArray) (cap n : Nat) (hn : t.size ≤ n) : Bw (w.alloc (.cells (bytesRow t cap) 5 (n, n + 1))) w.heap.size (bytesOf t) := by
  refine ⟨_, _, heap_alloc_new w _, by rw [bytesOf_length]; exact hn, ?_, fun j hj => ?_⟩
  · rw [bytesOf_length]
    have e : t.data.size = t.size := rfl
    simp [bytesRow]
  · have hs : j < t.data.size := by rw [bytesOf_length] at hj; exact hj
    have hs' : j < t.size := hs
    simp [bytesRow, bytesOf, B, Array.getElem?_append, hs']
end Bw

/-- bytes, of which the first k of another list have been put in at a place -/
def spl (bs : List UInt8) (f : Nat) (y : List UInt8) (k : Nat) : List UInt8 := bs.take f ++ y.take k ++ bs.drop (f + k)
theorem spl_len {bs y : List UInt8} {f k : Nat} (h1 : k ≤ y.length) (h2 : f + k ≤ bs.length) : (spl bs f y k).length = bs.length := by
  unfold spl
  rw [List.length_append, List.length_append, List.length_take, List.length_take, List.length_drop]
  omega
theorem spl_zero (bs : List UInt8) (f : Nat) (y : List UInt8) : spl bs f y 0 = bs := by
  unfold spl
  rw [List.take_zero, List.append_nil, Nat.add_zero, List.take_append_drop]
theorem spl_next {bs y : List UInt8} {f k : Nat} (h1 : k < y.length) (h2 : f + k < bs.length) : (spl bs f y k).set (f + k) y[k] = spl bs f y (k + 1) := by
  unfold spl
  have e : (bs.take f ++ y.take k).length = f + k := by rw [List.length_append, List.length_take, List.length_take]; omega
  rw [List.set_append, if_neg (by omega), e, Nat.sub_self, List.take_succ_eq_append_getElem h1, List.drop_eq_getElem_cons h2, List.set_cons_zero, show f + (k + 1) = f + k + 1 from by omega]
  simp only [List.append_assoc]
  rfl
/-- what opening answers of a frame so changed -/
theorem spl_open {b y : List UInt8} {f k : Nat} (hb : b.length ≤ 1024) (h1 : k ≤ y.length) (h4 : k ≤ 4) (hf : 2 ≤ f) (h2 : f + k ≤ (frame b).length) :
    (spl (frame b) f y k = frame b ∧ openL (spl (frame b) f y k) = (b, 0)) ∨ (spl (frame b) f y k ≠ frame b ∧ openL (spl (frame b) f y k) = ([], 4)) := by
  by_cases hx : spl (frame b) f y k = frame b
  · left
    exact ⟨hx, by rw [hx]; exact open_frame b hb⟩
  · right
    refine ⟨hx, ?_⟩
    have e : frame b = (frame b).take f ++ ((frame b).drop f).take k ++ (frame b).drop (f + k) := by
      rw [List.append_assoc, ← List.drop_drop, List.take_append_drop, List.take_append_drop]
    unfold spl
    refine open_spoilt hb e (by rw [List.length_take]; omega) (by rw [List.length_take, List.length_take, List.length_drop]; omega) (by rw [List.length_take]; omega) fun he => hx ?_
    unfold spl
    rw [← he]
    exact e.symm

theorem f_ne {s t : ByteArray} (h : bytesOf s ≠ bytesOf t) : (s.toList == t.toList) = false := by
  rw [beq_eq_false_iff_ne]
  rw [ByteArray.toList_eq, ByteArray.toList_eq]
  exact h

set_option maxRecDepth 100000 in
set_option maxHeartbeats 1600000 in
theorem spoilt_walk (body : ByteArray) (at_ : Int) (x0 x1 x2 x3 : UInt8) (hb : body.size ≤ 140737488351232) (w : World) :
    Calls Try.prog 5 #[.string body, .int .i64 at_, .agg #[B x0, B x1, B x2, B x3]] w fun e w' => e = .returned (.bool true) ∧ Below w.heap.size w w' := by
  have KL := fun w => lives_any w
  by_cases hl : 1024 < body.size
  · go_enter Try.func5, Try.ntmps5
    have KL2 := KL
    go_wp2_with (first | (go_at_call 10; refine (KL _).mono ?_; clear KL; rintro e w1 ⟨rfl, hf1⟩) | (go_at_call 10; refine (KL2 _).mono ?_; clear KL2; rintro e w2 ⟨rfl, hf2⟩))
    go_ret
    exact ⟨rfl, (((Fr.refl (fun _ => False) w).alloc (.cells #[B x0, B x1, B x2, B x3] 35)).trans (hf1.trans hf2 (fun _ _ h => h)) (fun _ _ h => h)).toBelow0⟩
  · have K1 := seal_one body (by omega)
    rw [frameL_ok hl] at K1
    have hz := frame_size body
    have hbl : (bytesOf body).length ≤ 1024 := by rw [bytesOf_length]; omega
    have hfl : (frame (bytesOf body)).length = body.size + 6 := by rw [frame_length, bytesOf_length]
    have hbF : bytesOf ⟨(frame (bytesOf body)).toArray⟩ = frame (bytesOf body) := bytesOf_mk _
    have hso := fun (f k : Nat) (y : List UInt8) => spl_open (b := bytesOf body) (y := y) (f := f) (k := k) hbl
    simp only at K1
    rw [← hbF] at hso hfl
    generalize (⟨(frame (bytesOf body)).toArray⟩ : ByteArray) = F at *
    obtain ⟨d, hd, hdl⟩ := umod at_ (F.size - 2) (by omega) (by omega)
    rw [show ((F.size - 2 : Nat) : Int) = (F.size : Int) - 2 from by omega] at hd
    have h6 : 6 ≤ F.size := by omega
    have hcv := fun W : World => run_bytes_of_string (P := Try.prog) W 9 24 5 F Try.underlying9 Try.underlying24 Try.underlying5
    have HZ := Lib.hid hz
    have hF : F.size ≤ 2000 := by omega
    clear hz hfl hbF
    go_enter Try.func5, Try.ntmps5
    go_wp2_with (go_at_call 10; refine (KL _).mono ?_; clear KL; rintro e w1 ⟨rfl, hf1⟩)
    go_wp2_with (go_at_call 11; refine (K1 w1).mono ?_; clear K1; rintro e w2 ⟨rfl, hf2⟩)
    have hwith : Is w2 w.heap.size 35 #[B x0, B x1, B x2, B x3] := ((Is.new w _ _).fr hf1 id).fr hf2 id
    have hg := (((Fr.refl (fun _ => False) w).alloc (.cells #[B x0, B x1, B x2, B x3] 35)).trans (hf1.trans hf2 (fun _ _ h => h)) (fun _ _ h => h))
    have hlt := hwith.lt
    clear hf1 hf2
    have hbw := Bw.new w2 F (grownCap w2 F.size 0 5) (bytesRow F (grownCap w2 F.size 0 5)).size (by have e : F.data.size = F.size := rfl; simp [bytesRow])
    have hg3 := (hg.alloc (.cells (bytesRow F (grownCap w2 F.size 0 5)) 5 ((bytesRow F (grownCap w2 F.size 0 5)).size, (bytesRow F (grownCap w2 F.size 0 5)).size + 1))).drew
    have hw3 := (hwith.alloc (.cells (bytesRow F (grownCap w2 F.size 0 5)) 5 ((bytesRow F (grownCap w2 F.size 0 5)).size, (bytesRow F (grownCap w2 F.size 0 5)).size + 1))).drew
    have hbw3 : Bw (w2.alloc (.cells (bytesRow F (grownCap w2 F.size 0 5)) 5 ((bytesRow F (grownCap w2 F.size 0 5)).size, (bytesRow F (grownCap w2 F.size 0 5)).size + 1))).drew w2.heap.size (bytesOf F) := hbw
    have hle : w.heap.size ≤ w2.heap.size := hg.size
    generalize (w2.alloc (.cells (bytesRow F (grownCap w2 F.size 0 5)) 5 ((bytesRow F (grownCap w2 F.size 0 5)).size, (bytesRow F (grownCap w2 F.size 0 5)).size + 1))).drew = W at *
    generalize grownCap w2 F.size 0 5 = cap at *
    have hne : w.heap.size ≠ w2.heap.size := by omega
    generalize hbb : w2.heap.size = bb at *
    clear hbw hg hwith hcv hbb
    have hy : [x0, x1, x2, x3].length = 4 := rfl
    have hlF : (bytesOf F).length = F.size := bytesOf_length F
    rw [← spl_zero (bytesOf F) (2 + d) [x0, x1, x2, x3]] at hbw3
    have hcw : (#[B x0, B x1, B x2, B x3] : Array Value) = ([x0, x1, x2, x3].map B).toArray := rfl
    rw [hcw] at hw3
    clear hcw hd
    generalize [x0, x1, x2, x3] = y at *
    go_loopw [11] (fun i wr => ∃ k, k ≤ 4 ∧ 2 + d + k ≤ F.size ∧ i = .int .i64 (k : Nat) ∧ Fr (fun _ => False) w wr ∧ Is wr w.heap.size 35 (y.map B).toArray ∧ Bw wr bb (spl (bytesOf F) (2 + d) y k)) (fun i _ => 4 - (intOf i).toNat)
    case atStart => exact ⟨0, Nat.zero_le _, by omega, rfl, hg3, hw3, hbw3⟩
    case round =>
      obtain ⟨k, hk, hkF, rfl, g1, jw, jb⟩ := hrel
      clear hg3 hw3 hbw3
      by_cases hk4 : k < 4
      · by_cases hkl : 2 + d + k < F.size
        · have hky : k < y.length := by omega
          have c1 : wr.cell? ⟨w.heap.size, k, none⟩ = some (.int .u8 (y[k].toNat : Int)) := (jw.cell k).trans (by simp [hky, B])
          have hsl : (spl (bytesOf F) (2 + d) y k).length = F.size := by rw [spl_len (by omega) (by omega), hlF]
          have c2 := jb.cell (j := 2 + d + k) (by omega)
          have c3 := jb.frozen (j := 2 + d + k) (by omega)
          have hnext := jb.set (j := 2 + d + k) y[k]
          rw [spl_next hky (by omega)] at hnext
          have hg4 : Fr (fun _ => False) w (wr.setCell ⟨bb, 2 + d + k, none⟩ (B y[k])) := g1.setCell (p := ⟨bb, 2 + d + k, none⟩) (.inr hle) _
          have hw4 : Is (wr.setCell ⟨bb, 2 + d + k, none⟩ (B y[k])) w.heap.size 35 (y.map B).toArray := jw.far hne _
          go_wp2_with fail
          go_roundw
          case rel => exact ⟨k + 1, by omega, by omega, by go_num, hg4, hw4, hnext⟩
          case measure => simp [intOf]; omega
        · have hT := jb.text cap (n := F.size) (by rw [spl_len (by omega) (by omega), hlF])
          have hO := hso (2 + d) k y (by omega) (by omega) (by omega) (by rw [hlF]; omega)
          have K2 := open_any ⟨(spl (bytesOf F) (2 + d) y k).toArray⟩
          rw [bytesOf_mk (spl (bytesOf F) (2 + d) y k)] at K2
          have hT4f := fun (w4 : World) (f : Fr (fun _ => False) wr w4) => (jb.fr f id).text cap (n := F.size) (by rw [spl_len (by omega) (by omega), hlF])
          clear jw jb hso
          rcases hO with ⟨e1, e2⟩ | ⟨e1, e2⟩
          · rw [e2] at K2
            simp only at K2
            rw [e1, mk_bytesOf F] at hT K2 hT4f
            rw [mk_bytesOf body] at K2
            clear e1 e2
            go_wp2_with (go_at_call 15; refine (K2 wr).mono ?_; clear K2; rintro e w4 ⟨rfl, hf4⟩; have hT4 := hT4f w4 hf4; have q1 : (F.toList == F.toList) = true := beq_self_eq_true _; have q2 : (body.toList == body.toList) = true := beq_self_eq_true _)
            go_ret
            exact ⟨rfl, (g1.trans hf4 (fun _ _ h => h)).toBelow0⟩
          · rw [e2] at K2
            have hne2 := f_ne (s := ⟨(spl (bytesOf F) (2 + d) y k).toArray⟩) (t := F) (by rw [bytesOf_mk (spl (bytesOf F) (2 + d) y k)]; exact e1)
            simp only at K2
            clear e1 e2
            generalize (⟨(spl (bytesOf F) (2 + d) y k).toArray⟩ : ByteArray) = G at *
            go_wp2_with (go_at_call 15; refine (K2 wr).mono ?_; clear K2; rintro e w4 ⟨rfl, hf4⟩; have hT4 := hT4f w4 hf4)
            go_ret
            exact ⟨rfl, (g1.trans hf4 (fun _ _ h => h)).toBelow0⟩
      · have hT := jb.text cap (n := F.size) (by rw [spl_len (by omega) (by omega), hlF])
        have hO := hso (2 + d) k y (by omega) (by omega) (by omega) (by rw [hlF]; omega)
        have K2 := open_any ⟨(spl (bytesOf F) (2 + d) y k).toArray⟩
        rw [bytesOf_mk (spl (bytesOf F) (2 + d) y k)] at K2
        have hT4f := fun (w4 : World) (f : Fr (fun _ => False) wr w4) => (jb.fr f id).text cap (n := F.size) (by rw [spl_len (by omega) (by omega), hlF])
        clear jw jb hso
        rcases hO with ⟨e1, e2⟩ | ⟨e1, e2⟩
        · rw [e2] at K2
          simp only at K2
          rw [e1, mk_bytesOf F] at hT K2 hT4f
          rw [mk_bytesOf body] at K2
          clear e1 e2
          go_wp2_with (go_at_call 15; refine (K2 wr).mono ?_; clear K2; rintro e w4 ⟨rfl, hf4⟩; have hT4 := hT4f w4 hf4; have q1 : (F.toList == F.toList) = true := beq_self_eq_true _; have q2 : (body.toList == body.toList) = true := beq_self_eq_true _)
          go_ret
          exact ⟨rfl, (g1.trans hf4 (fun _ _ h => h)).toBelow0⟩
        · rw [e2] at K2
          have hne2 := f_ne (s := ⟨(spl (bytesOf F) (2 + d) y k).toArray⟩) (t := F) (by rw [bytesOf_mk (spl (bytesOf F) (2 + d) y k)]; exact e1)
          simp only at K2
          clear e1 e2
          generalize (⟨(spl (bytesOf F) (2 + d) y k).toArray⟩ : ByteArray) = G at *
          go_wp2_with (go_at_call 15; refine (K2 wr).mono ?_; clear K2; rintro e w4 ⟨rfl, hf4⟩; have hT4 := hT4f w4 hf4)
          go_ret
          exact ⟨rfl, (g1.trans hf4 (fun _ _ h => h)).toBelow0⟩
end Go.Proofs.Ytcfmgoocaheaiaa
