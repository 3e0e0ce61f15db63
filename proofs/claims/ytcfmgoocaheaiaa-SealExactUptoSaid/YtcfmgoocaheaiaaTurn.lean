/- The walk of SealRows: frames that stand one behind the other are found in turn, each behind the one before. -/
import Derived.Test.YtcfmgoocaheaiaaCut
import Derived.Test.YtcfmgoocaheaiaaApp
namespace Go.Proofs.Ytcfmgoocaheaiaa
open Go.RowKit Crc

theorem Try.infoS : (Try.prog.info? 9).map (fun i => (i.zero, i.size, i.bytes)) = some (some (.string .empty), 1, 16) := by kernel_rfl
/-- those that have a frame; their frames -/
def fits (l : List ByteArray) : List ByteArray := l.filter fun x => decide (x.size ≤ 1024)
def frs (l : List ByteArray) : List UInt8 := (l.map fun x => frame (bytesOf x)).flatten
theorem fits_yes {l : List ByteArray} {k : Nat} (h : k < l.length) (hx : l[k].size ≤ 1024) : fits (l.take (k + 1)) = fits (l.take k) ++ [l[k]] := by
  unfold fits
  rw [List.take_succ_eq_append_getElem h, List.filter_append]
  simp [hx]
theorem fits_no {l : List ByteArray} {k : Nat} (h : k < l.length) (hx : ¬ l[k].size ≤ 1024) : fits (l.take (k + 1)) = fits (l.take k) := by
  unfold fits
  rw [List.take_succ_eq_append_getElem h, List.filter_append]
  simp [hx]
theorem fits_all (l : List ByteArray) : ∀ x ∈ fits l, x.size ≤ 1024 := fun x hx => by
  unfold fits at hx
  simpa using (List.mem_filter.1 hx).2
theorem fits_len (l : List ByteArray) (k : Nat) : (fits (l.take k)).length ≤ l.length := by
  unfold fits
  exact Nat.le_trans (List.length_filter_le _ _) (by rw [List.length_take]; omega)
theorem frs_snoc (l : List ByteArray) (x : ByteArray) : frs (l ++ [x]) = frs l ++ frame (bytesOf x) := by simp [frs]
theorem frs_len (l : List ByteArray) (h : ∀ x ∈ l, x.size ≤ 1024) : (frs l).length ≤ l.length * 1030 := by
  induction l with
  | nil => simp [frs]
  | cons x l ih =>
    have k := ih fun y hy => h y (List.mem_cons_of_mem _ hy)
    have hx := h x List.mem_cons_self
    have e : frs (x :: l) = frame (bytesOf x) ++ frs l := rfl
    rw [e, List.length_append, frame_length, bytesOf_length, List.length_cons]
    omega
theorem frs_at {l : List ByteArray} {j : Nat} (h : j < l.length) : frs l = frs (l.take j) ++ (frame (bytesOf l[j]) ++ frs (l.drop (j + 1))) := by
  have e : frs l = frs (l.take (j + 1)) ++ frs (l.drop (j + 1)) := by
    unfold frs
    rw [← List.flatten_append, ← List.map_append, List.take_append_drop]
  rw [e, List.take_succ_eq_append_getElem h, frs_snoc, List.append_assoc]
theorem next_frs {l : List ByteArray} {j : Nat} (h : j < l.length) (hx : l[j].size ≤ 1024) : nextL (frs l) ((frs (l.take j)).length : Nat) = (bytesOf l[j], ((frs (l.take j)).length : Int) + (l[j].size : Int) + 6, 0) := by
  unfold nextL
  rw [if_neg (by rw [frs_at h, List.length_append]; omega), Int.toNat_natCast]
  have e : (frs l).drop (frs (l.take j)).length = frame (bytesOf l[j]) ++ frs (l.drop (j + 1)) := by
    conv => lhs; rw [frs_at h]
    exact List.drop_left
  rw [e, head_frame (bytesOf l[j]) _ (by rw [bytesOf_length]; exact hx), bytesOf_length]
  simp only [if_true]
  congr 2
theorem next_end (l : List UInt8) : nextL l (l.length : Nat) = ([], 0, 1) := by
  unfold nextL
  rw [if_neg (by omega), Int.toNat_natCast, List.drop_length]
  rfl

set_option maxRecDepth 100000 in
set_option maxHeartbeats 4000000 in
theorem turn_walk (A : Option Addr) (c : Nat) (l : List ByteArray) (hl : l.length ≤ 1048576) (hs : ∀ x ∈ l, x.size ≤ 1048576) (w : World) (h : Rd w A (l.map Value.string)) :
    Calls Try.prog 6 #[.slice A l.length c] w fun e w' => e = .returned (.bool true) ∧ Below w.heap.size w w' := by
  obtain ⟨i0, hi, hz0, hz1, hz2⟩ := info_parts Try.infoB
  obtain ⟨i2, hj, hy0, hy1, hy2⟩ := info_parts Try.infoS
  have KL := lives_any w
  go_enter Try.func6, Try.ntmps6
  go_wp2_with (go_at_call 10; refine KL.mono ?_; clear KL; rintro e w1 ⟨rfl, hf1⟩)
  have hle := hf1.size
  go_loopw [3, 4, 22] (fun v3 v4 i wr => ∃ k, k ≤ l.length ∧ i = .int .i64 (k : Nat) ∧ Fr (fun _ => False) w wr ∧ wr.ownsRow w.heap.size 5 1 v3 (frs (fits (l.take k))).length ((frs (fits (l.take k))).map B) ∧ wr.ownsRow w.heap.size 9 1 v4 (fits (l.take k)).length ((fits (l.take k)).map Value.string)) (fun _ _ i _ => l.length - (intOf i).toNat)
  case atStart => exact ⟨0, Nat.zero_le _, rfl, hf1, World.ownsRow_nil _ _ _ _, World.ownsRow_nil _ _ _ _⟩
  case round =>
    obtain ⟨k, hk, rfl, g1, o3, o4⟩ := hrel
    clear hf1
    by_cases hlt : k < l.length
    · have hr := h.fr g1 (fun _ _ => id)
      obtain ⟨g, o, rfl, hg, hc⟩ := hr (by simp; omega)
      have c1 : wr.cell? ⟨g, o + k, none⟩ = some (.string l[k]) := hc k (.string l[k]) (by rw [List.getElem?_map, List.getElem?_eq_getElem hlt]; rfl)
      have hxs := hs l[k] (List.getElem_mem hlt)
      have K := seal_one l[k] (by omega) wr
      have hbd1 := fits_len l k
      have hbd2 := frs_len (fits (l.take k)) (fits_all _)
      by_cases hx : 1024 < l[k].size
      · rw [frameL_long hx] at K
        have HN := Lib.hid (fits_no hlt (by omega))
        generalize l[k] = x at *
        clear hc hr
        go_wp2_with (go_at_call 11; refine K.mono ?_; clear K; rintro e w2 ⟨rfl, hf2⟩)
        go_roundw
        case rel => exact ⟨k + 1, by omega, by go_num, g1.trans hf2 (fun _ _ h => h), by rw [HN.out]; exact own_fr o3 hf2 (fun _ _ => id), by rw [HN.out]; exact own_fr o4 hf2 (fun _ _ => id)⟩
        case measure => simp [intOf]; omega
      · rw [frameL_ok hx] at K
        have hy := fits_yes hlt (by omega : l[k].size ≤ 1024)
        have hz := frame_size l[k]
        have hfx : frs (fits (l.take (k + 1))) = frs (fits (l.take k)) ++ frame (bytesOf l[k]) := by rw [hy, frs_snoc]
        have hfb : bytesOf ⟨(frame (bytesOf l[k])).toArray⟩ = frame (bytesOf l[k]) := bytesOf_mk _
        rw [← hfb] at hfx
        have HN := Lib.hid hy
        have HF := Lib.hid hfx
        simp only at K
        generalize (⟨(frame (bytesOf l[k])).toArray⟩ : ByteArray) = F at *
        generalize l[k] = x at *
        clear hc hr hy hfx hfb
        have HZ := Lib.hid hz
        have hF : F.size ≤ 1030 := by omega
        clear hz
        generalize hM : (frs (fits (l.take k))).length = M at *
        generalize hm : (fits (l.take k)).length = m at *
        have hM2 : M ≤ 1048576 * 1030 := by omega
        go_wp2_with fail
        refine K.mono ?_
        clear K
        rintro e w2 ⟨rfl, hf2⟩
        have o3' := own_fr o3 hf2 (fun _ _ => id)
        have o4' := own_fr o4 hf2 (fun _ _ => id)
        have g2 := g1.trans hf2 (fun _ _ h => h)
        have hle2 := g2.size
        clear o3 o4 hf2 g1
        go_wp2_with (at_builtin; refine Lib.wpList_append_own_string _ rfl (.tmp 34) (.tmp 35) 24 9 rfl w.heap.size 5 i0 Try.underlying24 Try.underlying9 hi hz0 hz1 hz2 _ M ((frs (fits (l.take k))).map B) rfl o3' F rfl (by unfold maxLen; omega) (by omega) hle2 ?_)
        intro v3' w3 p3 hg3 _
        have p4 := own_kept o3' o4' hg3 (by decide)
        have g3 := own_step g2 o3' hg3
        clear o3' o4' g2 hg3
        have hle3 := g3.size
        go_wp2_with (at_builtin; refine wpList_append_rd _ rfl (.tmp 37) (.tmp 39) 22 rfl w.heap.size 9 i2 (.string .empty) 16 Try.underlying22 hj hy0 hy1 hy2 rfl _ m ((fits (l.take k)).map Value.string) rfl (own_fr p4 ((Fr.refl (fun _ => False) w3).alloc (.cells #[.string x] 9)) (fun _ _ => id)) _ 1 1 [.string x] rfl rfl (Rd.one w3 (.string x) 9) (by intro u hu; simp at hu; subst hu; rfl) (by unfold maxLen; omega) (by omega) (by simp; omega) ?_)
        intro v4' w4 p5 hg4
        have fa : Fr (fun _ => False) w3 (w3.alloc (.cells #[.string x] 9)) := (Fr.refl _ _).alloc _
        have p6 := own_kept (own_fr p4 fa (fun _ _ => id)) (own_fr p3 fa (fun _ _ => id)) hg4 (by decide)
        have g4 := own_step (g3.alloc (.cells #[.string x] 9)) (own_fr p4 fa (fun _ _ => id)) hg4
        clear p3 p4 g3 fa hg4
        go_wp2
        go_roundw
        case rel =>
          refine ⟨k + 1, by omega, by go_num, g4, ?_, ?_⟩
          · rw [HF.out, List.length_append, bytesOf_length, hM, List.map_append]
            exact p6
          · rw [HN.out, List.length_append, hm, List.map_append]
            exact p5
        case measure => simp [intOf]; omega
    · have hk' : k = l.length := by omega
      subst hk'
      rw [List.take_length] at o3 o4
      have hfit := fits_all l
      have hfl := frs_len (fits l) hfit
      have hfn : (fits l).length ≤ l.length := by unfold fits; exact List.length_filter_le _ _
      have hnx := fun j (hj : j < (fits l).length) => next_frs hj (hfit _ (List.getElem_mem hj))
      have hne := next_end (frs (fits l))
      generalize fits l = W at *
      obtain ⟨A4, c4, rfl, _, _⟩ := own_form o4
      have r4 := own_rd o4
      have hcv := fun (w' : World) (f : Fr (fun _ => False) wr w') => own_text (own_fr o3 f (fun _ _ => id)) Try.underlying24 Try.underlying5 Try.underlying9
      obtain ⟨A3, c3, rfl, _, _⟩ := own_form o3
      have hT : bytesOf ⟨(frs W).toArray⟩ = frs W := bytesOf_mk _
      have KN := fun at_ w => next_any ⟨(frs W).toArray⟩ (by rw [size_of, hT]; omega) at_ w
      rw [hT] at KN
      generalize (⟨(frs W).toArray⟩ : ByteArray) = T at *
      generalize hM : (frs W).length = M at *
      have HM := Lib.hid hM
      clear o3 o4 hT hM
      go_wp2_with fail
      go_loopw [9, 44] (fun v9 i w5 => ∃ j, j ≤ W.length ∧ i = .int .i64 (j : Nat) ∧ v9 = .int .i64 ((frs (W.take j)).length : Nat) ∧ Fr (fun _ => False) wr w5) (fun _ i _ => W.length - (intOf i).toNat)
      case atStart => exact ⟨0, Nat.zero_le _, rfl, rfl, Fr.refl _ _⟩
      case round =>
        obtain ⟨j, hj, rfl, rfl, f5⟩ := hrel
        by_cases hlt2 : j < W.length
        · obtain ⟨g, o, rfl, hg, hc⟩ := (r4.fr f5 (fun _ _ => id)) (by simp; omega)
          have c1 := hc j (.string W[j]) (by rw [List.getElem?_map, List.getElem?_eq_getElem hlt2]; rfl)
          have K := KN ((frs (W.take j)).length : Nat)
          rw [hnx j hlt2] at K
          simp only at K
          rw [mk_bytesOf W[j]] at K
          have hcv5 := hcv _ f5
          have hx := hfit _ (List.getElem_mem hlt2)
          have hsn : (frs (W.take (j + 1))).length = (frs (W.take j)).length + (W[j].size + 6) := by
            rw [List.take_succ_eq_append_getElem hlt2, frs_snoc, List.length_append, frame_length, bytesOf_length]
          have HS := Lib.hid hsn
          have hbd : (frs (W.take j)).length ≤ W.length * 1030 := Nat.le_trans (frs_len _ (fun x hx => hfit x (List.mem_of_mem_take hx))) (Nat.mul_le_mul_right _ (by rw [List.length_take]; omega))
          generalize (frs (W.take j)).length = M0 at *
          generalize W[j] = x at *
          clear hc hsn hcv r4 hnx
          go_wp2_with (go_at_call 17; refine (K _).mono ?_; clear K; rintro e w6 ⟨rfl, hf6⟩; have q1 : (x.toList == x.toList) = true := beq_self_eq_true _)
          go_roundw
          case rel => exact ⟨j + 1, by omega, by go_num, by rw [HS.out]; refine congrArg (Value.int .i64) ?_; omega, f5.trans hf6 (fun _ _ h => h)⟩
          case measure => simp [intOf]; omega
        · have hj' : j = W.length := by omega
          subst hj'
          rw [List.take_length, HM.out]
          have K := KN (M : Nat)
          rw [hne] at K
          have hcv5 := hcv _ f5
          clear hcv KN hnx r4 hne
          go_wp2_with (go_at_call 17; refine (K _).mono ?_; clear K; rintro e w6 ⟨rfl, hf6⟩)
          go_ret
          exact ⟨rfl, ((g1.trans f5 (fun _ _ h => h)).trans hf6 (fun _ _ h => h)).toBelow0⟩
end Go.Proofs.Ytcfmgoocaheaiaa
