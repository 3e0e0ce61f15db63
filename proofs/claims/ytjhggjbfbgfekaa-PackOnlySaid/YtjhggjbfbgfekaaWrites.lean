/- The walk of PackWrites: both writers do the same, thing by thing. -/
import Derived.Test.YtjhggjbfbgfekaaItem
namespace Go.Proofs.Ytjhggjbfbgfekaa
open Go.RowKit

/-- a thing as data -/
structure Thing where
  k : Int
  n : Int
  x : ByteArray
/-- A slice of things that is read. -/
def Things (w : World) (A : Option Addr) (l : List Thing) : Prop := 0 < l.length → ∃ g o, A = some ⟨g, o, none⟩ ∧ g < w.heap.size ∧
  ∀ j (hj : j < l.length), w.cell? ⟨g, o + j * 3, none⟩ = some (.int .i64 l[j].k) ∧ w.cell? ⟨g, o + j * 3 + 1, none⟩ = some (.int .i64 l[j].n) ∧ w.cell? ⟨g, o + j * 3 + 2, none⟩ = some (.string l[j].x)
def Pk.S.items (s : Pk.S) (l : List Thing) : Pk.S := l.foldl (fun s t => s.item t.k t.n t.x) s

theorem Pk.S.item_len (s : Pk.S) (k n : Int) (x : ByteArray) : (s.item k n x).bs.length ≤ s.bs.length + 256 := by
  unfold Pk.S.item
  have h1 := (Pk.S.num_len s 1 n).2
  have h2 := (Pk.S.num_len s 2 n).2
  have h4 := (Pk.S.num_len s 4 n).2
  have ht := Pk.S.text_len' s (bytesOf x)
  split
  · omega
  · split
    · omega
    · split <;> omega
theorem Pk.S.items_len (s : Pk.S) (l : List Thing) : (s.items l).bs.length ≤ s.bs.length + 256 * l.length := by
  induction l generalizing s with
  | nil => simp [Pk.S.items]
  | cons t l ih =>
    show ((s.item t.k t.n t.x).items l).bs.length ≤ _
    have h1 := ih (s.item t.k t.n t.x)
    have h2 := Pk.S.item_len s t.k t.n t.x
    rw [List.length_cons, Nat.mul_add, Nat.mul_one]
    omega
theorem Pk.S.items_snoc (s : Pk.S) (l : List Thing) (t : Thing) : s.items (l ++ [t]) = (s.items l).item t.k t.n t.x := List.foldl_append
theorem Pk.S.item_L (s : Pk.S) (k n : Int) (x : ByteArray) : (s.item k n x).L = s.L := by
  unfold Pk.S.item
  split
  · exact Pk.S.num_L _ _ _
  · split
    · exact Pk.S.num_L _ _ _
    · split
      · exact Pk.S.num_L _ _ _
      · exact Pk.S.text_L _ _
theorem Pk.S.items_L (s : Pk.S) (l : List Thing) : (s.items l).L = s.L := by
  induction l generalizing s with
  | nil => rfl
  | cons t l ih => show ((s.item t.k t.n t.x).items l).L = s.L; rw [ih, Pk.S.item_L]
theorem len_same {w : World} {b : Nat} {F : Option Nat} {s : Pk.S} (h : Wr w b F s) :
    Calls Try.prog 15 #[.pointer (some ⟨b, 0, none⟩)] w fun e w' => e = .returned (.int .i64 (s.bs.length : Int)) ∧ w' = w := (len_any h).mono fun _ _ ⟨h, k⟩ => ⟨h, k.symm⟩

set_option maxHeartbeats 1600000 in
theorem writes_walk (L : Int) (hL : L ≤ 9223372036854775807) (A : Option Addr) (c : Nat) (l : List Thing) (w : World) (hl : Things w A l) (hlen : l.length ≤ 1048576) (hsz : ∀ t ∈ l, t.x.size ≤ 1048576) :
    Calls Try.prog 3 #[.int .i64 L, .slice A l.length c] w fun e w' => e = .returned (.bool true) ∧ Below w.heap.size w w' := by
  go_enter Try.func3, Try.ntmps3
  go_wp2_with fail
  refine (lives_any _).mono ?_
  rintro e w1 ⟨rfl, hf1⟩
  go_wp2_with fail
  refine (new_calls L _ hL).mono ?_
  rintro e w2 ⟨rfl, hW, hf2⟩
  go_wp2_with fail
  refine (mnew_calls L _ hL).mono ?_
  rintro e w3 ⟨rfl, hM, hf3⟩
  go_wp2_with fail
  refine (new_calls 3 _ (by decide)).mono ?_
  rintro e w4 ⟨rfl, hO, hf4⟩
  have bX : w1.heap.size < w2.heap.size := hW.lt
  have bY : w2.heap.size < w3.heap.size := hM.lt
  have bZ : w3.heap.size < w4.heap.size := hO.lt
  have hW := (hW.fr hf3 id (fun _ _ => id)).fr hf4 id (fun _ _ => id)
  have hM := hM.fr hf4 id (fun _ _ => id)
  have g := ((hf1.trans hf2 (fun _ _ h => h)).trans hf3 (fun _ _ h => h)).trans hf4 (fun _ _ h => h)
  have b1 := hf1.size
  clear hf1 hf2 hf3 hf4
  generalize w1.heap.size = p1 at *
  generalize w2.heap.size = p2 at *
  generalize w3.heap.size = p3 at *
  go_wp2_with fail
  go_loopw [25] (fun i wr => ∃ k F1 F2, k ≤ l.length ∧ i = .int .i64 (k : Nat) ∧ Wr wr p1 F1 ((⟨max L 0, [], 0⟩ : Pk.S).items (l.take k)) ∧ Wm wr p2 F2 ((⟨max L 0, [], 0⟩ : Pk.S).items (l.take k)) ∧ Wr wr p3 none ⟨max 3 0, [], 0⟩ ∧ Sep p1 F1 p2 F2 ∧ Sep p1 F1 p3 none ∧ Sep p2 F2 p3 none ∧ Fr (fun _ => False) w wr ∧ (∀ g, F1 = some g → w.heap.size ≤ g) ∧ (∀ g, F2 = some g → w.heap.size ≤ g)) (fun i _ => l.length - (intOf i).toNat)
  case atStart => exact ⟨0, none, none, Nat.zero_le _, rfl, hW, hM, hO, Sep.new (by omega) (by simp), Sep.new (by omega) (by simp), Sep.new (by omega) (by simp), g, (fun _ h => by cases h), (fun _ h => by cases h)⟩
  case round =>
    obtain ⟨k, F1, F2, hk, rfl, hW1, hM1, hO1, s12, s13, s23, g1, o1, o2⟩ := hrel
    by_cases hlt : k < l.length
    · obtain ⟨gg, o, rfl, hgl, hc⟩ := hl (by omega)
      obtain ⟨hc0, hc1, hc2⟩ := hc k hlt
      have c0 : wr.cell? ⟨gg, o + k * 3, none⟩ = some (.int .i64 l[k].k) := (g1.cell (p := ⟨gg, o + k * 3, none⟩) hgl id).trans hc0
      have c1 : wr.cell? ⟨gg, o + k * 3 + 1, none⟩ = some (.int .i64 l[k].n) := (g1.cell (p := ⟨gg, o + k * 3 + 1, none⟩) hgl id).trans hc1
      have c2 : wr.cell? ⟨gg, o + k * 3 + 2, none⟩ = some (.string l[k].x) := (g1.cell (p := ⟨gg, o + k * 3 + 2, none⟩) hgl id).trans hc2
      have hsn : (⟨max L 0, [], 0⟩ : Pk.S).items (l.take (k + 1)) = ((⟨max L 0, [], 0⟩ : Pk.S).items (l.take k)).item l[k].k l[k].n l[k].x := by
        rw [List.take_succ_eq_append_getElem hlt, Pk.S.items_snoc]
      have hnb := Pk.S.items_len (⟨max L 0, [], 0⟩ : Pk.S) (l.take k)
      rw [List.length_take, Nat.min_eq_left hk, List.length_nil, Nat.zero_add] at hnb
      have hxs : l[k].x.size ≤ 140737488355328 := by have := hsz _ (List.getElem_mem hlt); omega
      have hLk := Pk.S.items_L (⟨max L 0, [], 0⟩ : Pk.S) (l.take k)
      have HS := Lib.hid hsn
      clear hsn hc0 hc1 hc2 hc
      generalize (⟨max L 0, [], 0⟩ : Pk.S).items (l.take k) = sk at *
      generalize l[k].k = tk at *
      generalize l[k].n = tn at *
      generalize l[k].x = tx at *
      have hbd : sk.L ≤ 140737488355328 ∨ sk.bs.length + 256 ≤ 140737488355328 := by omega
      have fA : Fr (fun _ => False) wr (wr.alloc (.cells #[.int .i64 tk, .int .i64 tn, .string tx] 29)) := (Fr.refl _ wr).alloc _
      have hW2 := hW1.fr fA id (fun _ _ => id)
      have hM2 := hM1.fr fA id (fun _ _ => id)
      have hO2 := hO1.fr fA id (fun _ _ => id)
      have g2 := g1.trans fA (fun _ _ h => h)
      have hbox : Is (wr.alloc (.cells #[.int .i64 tk, .int .i64 tn, .string tx] 29)) wr.heap.size 29 #[.int .i64 tk, .int .i64 tn, .string tx] := Is.new _ _ _
      have l1 := hW1.lt
      have l2 := hM1.lt
      have l3 := hW1.ltF
      have l4 := hM1.ltF
      go_wp2_with fail
      refine (write_any hW2 tk tn tx hbd hxs).mono ?_
      rintro e w5 ⟨rfl, F3, hW5, m5⟩
      have hM5 := hM2.mv m5 s12.symm
      have hO5 := hO2.mv m5 s13.symm
      have hbox5 : Is w5 wr.heap.size 29 #[.int .i64 tk, .int .i64 tn, .string tx] := hbox.fr m5.1 (by
        rintro (e | e)
        · omega
        · have := l3 _ e; omega)
      have t12 := (s12.symm.mv m5 hM2.lt hM2.ltF).symm
      have t13 := (s13.symm.mv m5 hO2.lt hO2.ltF).symm
      obtain ⟨g5, o5⟩ := m5.own g2 b1 o1
      have b0 : w5.cell? ⟨wr.heap.size, 0, none⟩ = some (.int .i64 tk) := (hbox5.cell 0).trans rfl
      have b1' : w5.cell? ⟨wr.heap.size, 1, none⟩ = some (.int .i64 tn) := (hbox5.cell 1).trans rfl
      have b2' : w5.cell? ⟨wr.heap.size, 2, none⟩ = some (.string tx) := (hbox5.cell 2).trans rfl
      clear hbox hbox5 m5 hW2 hM2 hO2 hW1 hM1 hO1 s12 s13 g2 fA c0 c1 c2 l3 l4
      go_wp2_with fail
      refine (model_any hM5 tk tn tx hbd).mono ?_
      rintro e w6 ⟨rfl, F4, hM6, m6⟩
      have hW6 := hW5.mv m6 t12
      have hO6 := hO5.mv m6 s23.symm
      have u12 := t12.mv m6 hW5.lt hW5.ltF
      have u23 := (s23.symm.mv m6 hO5.lt hO5.ltF).symm
      obtain ⟨g6, o6⟩ := m6.own g5 (by omega) o2
      clear m6 hW5 hM5 hO5 t12 s23 g5 b0 b1' b2'
      obtain ⟨A2, c2, i1, -, -, hok⟩ := id hM6
      have hm : w6.cell? ⟨p2, 0, none⟩ = some (.slice A2 (sk.item tk tn tx).bs.length c2) := (i1.cell 0).trans rfl
      clear i1
      have hle := hok.2.2
      rw [Pk.S.item_L, hLk] at hle
      have hd : decide ((if L < 0 then 0 else L) < ((sk.item tk tn tx).bs.length : Int)) = false := by
        have hle' : ((sk.item tk tn tx).bs.length : Int) ≤ max L 0 := hle
        simp only [decide_eq_false_iff_not]; split <;> omega
      have KL := fun n => len_same (hW6.drewN n)
      clear hle hLk hok
      generalize (sk.item tk tn tx).bs.length = nb at *
      go_wp2
      go_quiet ((go_at_call 15; exact Calls.quiet_of_same (KL _)))
      go_wp2
      go_roundw
      case rel => exact ⟨k + 1, F3, F4, by omega, by go_num, by rw [HS.out]; exact hW6.drewN nq, by rw [HS.out]; exact hM6.drewN nq, hO6.drewN nq, u12, t13, u23, g6.drewN nq, o5, o6⟩
      case measure => simp [intOf]; omega
    · have hkl : k = l.length := by omega
      clear hkl hl hsz
      go_wp2_with fail
      refine (done_any hW1).mono ?_
      rintro e w5 ⟨rfl, n5, rfl⟩
      have hW2 := hW1.drewN n5
      have hM2 := hM1.drewN n5
      have hO2 := hO1.drewN n5
      have g2 := g1.drewN n5
      clear hW1 hM1 hO1 g1
      generalize wr.drewN n5 = w5 at *
      go_wp2_with fail
      refine (mdone_any hM2).mono ?_
      rintro e w6 ⟨rfl, n6, rfl⟩
      have hW3 := hW2.drewN n6
      have hO3 := hO2.drewN n6
      have g3 := g2.drewN n6
      clear hW2 hM2 hO2 g2
      generalize w5.drewN n6 = w6 at *
      go_wp2_with fail
      refine (done_any hW3).mono ?_
      rintro e w7 ⟨rfl, n7, rfl⟩
      have hO4 := hO3.drewN n7
      have g4 := g3.drewN n7
      clear hW3 hO3 g3
      generalize w6.drewN n7 = w7 at *
      go_wp2_with fail
      refine (len_any hO4).mono ?_
      rintro e w8 ⟨rfl, rfl⟩
      go_wp2
      go_ret
      exact ⟨rfl, g4.toBelow0⟩
end Go.Proofs.Ytjhggjbfbgfekaa
