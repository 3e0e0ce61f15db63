/- The walk of TopoEnds: of each kind just its ends have a way, in one of the three positions. -/
import Derived.Test.YtgommmaipifpaaaLives
namespace Go.Proofs.Ytgommmaipifpaaa
open Go.RowKit

/-- has the end a way in one of the first j positions -/
def fnd (k e : Int) : Nat → Bool
  | 0 => false
  | j + 1 => fnd k e j || wayOk k e (j : Nat)
theorem fnd_three (k e : Int) : fnd k e 3 = (decide (0 ≤ e) && decide (e < endsM k)) := by
  rw [← way_some]
  simp [fnd]

set_option maxRecDepth 100000 in
set_option maxHeartbeats 4000000 in
theorem ends_walk (k e : Int) (w : World) : Calls Try.prog 8 #[.int .i64 k, .int .i64 e] w fun x w' => x = .returned (.bool true) ∧ Below w.heap.size w w' := by
  have KL := lives_any w
  have KE := fun w => ends_any k w
  have KW := fun p w => way_any k e p w
  have KB := fun p w => way_any k (wayOut k e p) p w
  have HB := Lib.hid (way_back k e)
  have HN := Lib.hid (way_none_out k e)
  have HF := Lib.hid (fnd_three k e)
  go_enter Try.func8, Try.ntmps8
  go_wp2_with fail
  refine KL.mono ?_
  clear KL
  rintro x w1 ⟨rfl, f1⟩
  go_wp2_with fail
  refine (KE _).mono ?_
  clear KE
  rintro x w2 ⟨rfl, rfl⟩
  go_wp2_with fail
  have f2 := f1.alloc (.cells #[.int .i64 0, .int .i64 1, .int .i64 2] 3)
  have is2 := Is.new w1 3 #[.int .i64 0, .int .i64 1, .int .i64 2]
  go_loopw [6, 19] (fun b t wr => ∃ j : Nat, j ≤ 3 ∧ t = .int .i64 (j : Nat) ∧ b = .bool (fnd k e j) ∧ Is wr w1.heap.size 3 #[.int .i64 0, .int .i64 1, .int .i64 2] ∧ Fr (fun _ => False) w wr) (fun _ t _ => 3 - (intOf t).toNat)
  case atStart => exact ⟨0, by omega, rfl, rfl, is2, f2⟩
  case round =>
    clear f1 f2 is2
    obtain ⟨j, hj, rfl, rfl, is, fr⟩ := hrel
    by_cases hlt : j < 3
    · have c0 : wr.cell? ⟨w1.heap.size, j, none⟩ = some (.int .i64 (j : Nat)) := by
        rw [is.cell j]
        match j, hlt with
        | 0, _ => rfl
        | 1, _ => rfl
        | 2, _ => rfl
      have hfs : fnd k e (j + 1) = (fnd k e j || wayOk k e (j : Nat)) := rfl
      have K1 := KW (j : Nat)
      have K2 := KB (j : Nat)
      cases hok : wayOk k e (j : Nat)
      · have hz := HN.out (j : Nat) hok
        rw [hok] at K1 hfs
        rw [hz] at K1
        rw [Bool.or_false] at hfs
        have HFS := Lib.hid hfs
        clear hok hz K2 KW KB hfs
        go_wp2_with fail
        refine (K1 _).mono ?_
        clear K1
        rintro x w3 ⟨rfl, f3⟩
        go_wp2_with fail
        go_roundw
        case rel => exact ⟨j + 1, by omega, by go_num, by rw [HFS.out], is.fr f3 id, fr_nil fr f3⟩
        case measure => simp [intOf]; omega
      · obtain ⟨h1, h2, h3, h4, h5, _, _⟩ := HB.out (j : Nat) hok
        rw [hok] at K1 hfs
        rw [h1, h2] at K2
        rw [Bool.or_true] at hfs
        generalize wayOut k e (j : Nat) = O at *
        generalize endsM k = n at *
        have HFS := Lib.hid hfs
        have e1 : (O == e) = false := by simp [h3]
        clear hok h1 h2 h3 KW KB hfs HF
        go_wp2_with fail
        refine (K1 _).mono ?_
        clear K1
        rintro x w3 ⟨rfl, f3⟩
        go_wp2_with fail
        refine (K2 _).mono ?_
        clear K2
        rintro x w4 ⟨rfl, f4⟩
        go_wp2_with fail
        go_roundw
        case rel => exact ⟨j + 1, by omega, by go_num, by rw [HFS.out], (is.fr f3 id).fr f4 id, fr_nil (fr_nil fr f3) f4⟩
        case measure => simp [intOf]; omega
    · have hj3 : j = 3 := by omega
      subst hj3
      have hf := HF.out
      generalize fnd k e 3 = b at *
      subst hf
      clear HF HB HN KW KB
      generalize endsM k = n at *
      by_cases h1 : 0 ≤ e
      · rw [show decide (0 ≤ e) = true by simp [h1], Bool.true_and]
        cases h2 : decide (e < n)
        · go_wp2_with fail
          go_ret
          exact ⟨rfl, fr.toBelow0⟩
        · go_wp2_with fail
          go_ret
          exact ⟨rfl, fr.toBelow0⟩
      · rw [show decide (0 ≤ e) = false by simp [h1], Bool.false_and]
        have h3 : e < 0 := by omega
        clear h1
        go_wp2_with fail
        go_ret
        exact ⟨rfl, fr.toBelow0⟩
end Go.Proofs.Ytgommmaipifpaaa
