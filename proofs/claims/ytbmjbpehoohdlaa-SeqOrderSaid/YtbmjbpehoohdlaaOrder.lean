/- The walk of SeqOrder: the next number is newer, of two unlike ones just one is (but half a round apart), and numbers less than half a round apart are ordered as they come. -/
import Derived.Test.YtbmjbpehoohdlaaGaps
namespace Go.Proofs.Ytbmjbpehoohdlaa
open Go.RowKit

theorem umod (a : Int) (m : Nat) (h0 : 0 < m) (h : m ≤ 4611686018427387904) : ∃ n : Nat, wrap64 ((IntKind.u64.wrap a).tmod (m : Int)) = n ∧ n < m := by
  have hw : 0 ≤ IntKind.u64.wrap a := by rw [IntKind.wrap_u64]; omega
  rw [Int.tmod_eq_emod_of_nonneg hw]
  have h1 := Int.emod_nonneg (IntKind.u64.wrap a) (b := (m : Int)) (by omega)
  have h2 := Int.emod_lt_of_pos (IntKind.u64.wrap a) (b := (m : Int)) (by omega)
  generalize IntKind.u64.wrap a % (m : Int) = x at *
  rw [IntWalk.wrap64_in _ ⟨by omega, by omega⟩]
  exact ⟨x.toNat, by omega, by omega⟩
theorem gap_next (a : Int) : gapZ a (ofZ (a + 1)) = 1 := by unfold gapZ ofZ; omega
theorem gap_prev (a : Int) : gapZ (ofZ (a + 1)) a = -1 := by unfold gapZ ofZ; omega
theorem gap_self (a : Int) : gapZ a a = 0 := by unfold gapZ; omega
theorem gap_zero {a b : Int} (h : gapZ a b = 0) : ofZ b = ofZ a := by unfold gapZ at h; unfold ofZ; omega
theorem gap_some {a b : Int} (h : gapZ a b ≠ 0) : ofZ a ≠ ofZ b := by unfold gapZ at h; unfold ofZ; omega
theorem gap_steps (a : Int) (k : Nat) (h : k < 32768) : gapZ (ofZ a) (ofZ (ofZ a + (k : Int))) = k := by unfold gapZ ofZ; omega

set_option maxRecDepth 100000 in
set_option maxHeartbeats 1600000 in
theorem order_walk (a b c : Int) (w : World) :
    Calls Try.prog 4 #[.int .i64 a, .int .i64 b, .int .i64 c] w fun e w' => e = .returned (.bool true) ∧ Below w.heap.size w w' := by
  have KL := lives_any w
  have N1 := next_any a
  have N2 := newer_any a (ofZ (a + 1))
  have N3 := newer_any (ofZ (a + 1)) a
  have N4 := gap_any a (ofZ (a + 1))
  have N5 := newer_any a a
  rw [gap_next] at N2 N4
  rw [gap_prev] at N3
  rw [gap_self] at N5
  rw [show decide ((0 : Int) < 1) = true from by decide] at N2
  rw [show decide ((0 : Int) < -1) = false from by decide] at N3
  rw [show decide ((0 : Int) < 0) = false from by decide] at N5
  have K1 := gap_any a b
  have K3 := of_any a
  have K4 := of_any b
  have K6 := newer_any a b
  have K7 := newer_any b a
  obtain ⟨k, hk, hk1⟩ := umod c 32768 (by decide) (by decide)
  rw [show ((32768 : Nat) : Int) = 32768 from rfl] at hk
  have E1 := of_any (ofZ a + (k : Int))
  have E2 := gap_any (ofZ a) (ofZ (ofZ a + (k : Int)))
  have E3 := newer_any (ofZ a) (ofZ (ofZ a + (k : Int)))
  rw [gap_steps a k hk1] at E2 E3
  have hb2 := of_bd a
  generalize ofZ (ofZ a + (k : Int)) = y at *
  generalize ofZ (a + 1) = n at *
  have hb1 := gap_bd a b
  by_cases h0 : gapZ a b = 0
  · rw [gap_back (by omega), h0] at K7
    rw [gap_zero h0] at K4
    rw [h0] at K1 K6
    rw [show decide ((0 : Int) < 0) = false from by decide] at K6
    rw [show decide ((0 : Int) < -0) = false from by decide] at K7
    clear h0 hb1 K6 K7
    generalize ofZ a = x at *
    go_enter Try.func4, Try.ntmps4
    go_wp2_with fail
    refine KL.mono ?_
    clear KL
    rintro e w1 ⟨rfl, hf1⟩
    go_wp2_with fail
    refine (N1 _).mono ?_
    clear N1
    rintro e w2 ⟨rfl, rfl⟩
    go_wp2_with fail
    refine (N2 _).mono ?_
    clear N2
    rintro e w2 ⟨rfl, rfl⟩
    go_wp2_with fail
    refine (N3 _).mono ?_
    clear N3
    rintro e w2 ⟨rfl, rfl⟩
    go_wp2_with fail
    refine (N4 _).mono ?_
    clear N4
    rintro e w2 ⟨rfl, rfl⟩
    go_wp2_with fail
    refine (N5 _).mono ?_
    clear N5
    rintro e w2 ⟨rfl, rfl⟩
    go_wp2_with fail
    refine (K1 _).mono ?_
    clear K1
    rintro e w2 ⟨rfl, rfl⟩
    go_wp2_with fail
    refine (K3 _).mono ?_
    rintro e w2 ⟨rfl, rfl⟩
    go_wp2_with fail
    refine (K4 _).mono ?_
    clear K4
    rintro e w2 ⟨rfl, rfl⟩
    go_wp2_with fail
    refine (K3 _).mono ?_
    clear K3
    rintro e w2 ⟨rfl, rfl⟩
    go_wp2_with fail
    refine (E1 _).mono ?_
    clear E1
    rintro e w2 ⟨rfl, rfl⟩
    go_wp2_with fail
    refine (E2 _).mono ?_
    clear E2
    rintro e w2 ⟨rfl, rfl⟩
    by_cases hk0 : k = 0
    · subst hk0
      clear E3
      go_wp2_with fail
      go_ret
      exact ⟨rfl, hf1.toBelow0⟩
    · have hkp : (0 : Int) < (k : Int) := by omega
      rw [decide_eq_true hkp] at E3
      go_wp2_with fail
      refine (E3 _).mono ?_
      clear E3
      rintro e w2 ⟨rfl, rfl⟩
      go_wp2_with fail
      go_ret
      exact ⟨rfl, hf1.toBelow0⟩
  · have hne := gap_some h0
    by_cases h1 : gapZ a b = -32768
    · rw [gap_half h1] at K7
      rw [h1] at K1 K6
      rw [show decide ((0 : Int) < -32768) = false from by decide] at K6 K7
      clear h0 hb1 h1
      generalize ofZ a = x at *
      generalize ofZ b = z at *
      have hq : (x == z) = false := by simp; exact hne
      go_enter Try.func4, Try.ntmps4
      go_wp2_with fail
      refine KL.mono ?_
      clear KL
      rintro e w1 ⟨rfl, hf1⟩
      go_wp2_with fail
      refine (N1 _).mono ?_
      clear N1
      rintro e w2 ⟨rfl, rfl⟩
      go_wp2_with fail
      refine (N2 _).mono ?_
      clear N2
      rintro e w2 ⟨rfl, rfl⟩
      go_wp2_with fail
      refine (N3 _).mono ?_
      clear N3
      rintro e w2 ⟨rfl, rfl⟩
      go_wp2_with fail
      refine (N4 _).mono ?_
      clear N4
      rintro e w2 ⟨rfl, rfl⟩
      go_wp2_with fail
      refine (N5 _).mono ?_
      clear N5
      rintro e w2 ⟨rfl, rfl⟩
      go_wp2_with fail
      refine (K1 _).mono ?_
      clear K1
      rintro e w2 ⟨rfl, rfl⟩
      go_wp2_with fail
      refine (K3 _).mono ?_
      rintro e w2 ⟨rfl, rfl⟩
      go_wp2_with fail
      refine (K4 _).mono ?_
      clear K4
      rintro e w2 ⟨rfl, rfl⟩
      go_wp2_with fail
      refine (K6 _).mono ?_
      clear K6
      rintro e w2 ⟨rfl, rfl⟩
      go_wp2_with fail
      refine (K7 _).mono ?_
      clear K7
      rintro e w2 ⟨rfl, rfl⟩
      go_wp2_with fail
      refine (K3 _).mono ?_
      clear K3
      rintro e w2 ⟨rfl, rfl⟩
      go_wp2_with fail
      refine (E1 _).mono ?_
      clear E1
      rintro e w2 ⟨rfl, rfl⟩
      go_wp2_with fail
      refine (E2 _).mono ?_
      clear E2
      rintro e w2 ⟨rfl, rfl⟩
      by_cases hk0 : k = 0
      · subst hk0
        clear E3
        go_wp2_with fail
        go_ret
        exact ⟨rfl, hf1.toBelow0⟩
      · have hkp : (0 : Int) < (k : Int) := by omega
        rw [decide_eq_true hkp] at E3
        go_wp2_with fail
        refine (E3 _).mono ?_
        clear E3
        rintro e w2 ⟨rfl, rfl⟩
        go_wp2_with fail
        go_ret
        exact ⟨rfl, hf1.toBelow0⟩
    · rw [gap_back h1] at K7
      generalize ofZ a = x at *
      generalize ofZ b = z at *
      generalize gapZ a b = g at *
      have hq : (x == z) = false := by simp; exact hne
      have hq0 : (g == 0) = false := by simp; exact h0
      have hq1 : (g == -32768) = false := by simp; exact h1
      by_cases hs : 0 < g
      · rw [decide_eq_true hs] at K6
        rw [decide_eq_false (by omega)] at K7
        go_enter Try.func4, Try.ntmps4
        go_wp2_with fail
        refine KL.mono ?_
        clear KL
        rintro e w1 ⟨rfl, hf1⟩
        go_wp2_with fail
        refine (N1 _).mono ?_
        clear N1
        rintro e w2 ⟨rfl, rfl⟩
        go_wp2_with fail
        refine (N2 _).mono ?_
        clear N2
        rintro e w2 ⟨rfl, rfl⟩
        go_wp2_with fail
        refine (N3 _).mono ?_
        clear N3
        rintro e w2 ⟨rfl, rfl⟩
        go_wp2_with fail
        refine (N4 _).mono ?_
        clear N4
        rintro e w2 ⟨rfl, rfl⟩
        go_wp2_with fail
        refine (N5 _).mono ?_
        clear N5
        rintro e w2 ⟨rfl, rfl⟩
        go_wp2_with fail
        refine (K1 _).mono ?_
        clear K1
        rintro e w2 ⟨rfl, rfl⟩
        go_wp2_with fail
        refine (K3 _).mono ?_
        rintro e w2 ⟨rfl, rfl⟩
        go_wp2_with fail
        refine (K4 _).mono ?_
        clear K4
        rintro e w2 ⟨rfl, rfl⟩
        go_wp2_with fail
        refine (K6 _).mono ?_
        clear K6
        rintro e w2 ⟨rfl, rfl⟩
        go_wp2_with fail
        refine (K7 _).mono ?_
        clear K7
        rintro e w2 ⟨rfl, rfl⟩
        go_wp2_with fail
        refine (K3 _).mono ?_
        clear K3
        rintro e w2 ⟨rfl, rfl⟩
        go_wp2_with fail
        refine (E1 _).mono ?_
        clear E1
        rintro e w2 ⟨rfl, rfl⟩
        go_wp2_with fail
        refine (E2 _).mono ?_
        clear E2
        rintro e w2 ⟨rfl, rfl⟩
        by_cases hk0 : k = 0
        · subst hk0
          clear E3
          go_wp2_with fail
          go_ret
          exact ⟨rfl, hf1.toBelow0⟩
        · have hkp : (0 : Int) < (k : Int) := by omega
          rw [decide_eq_true hkp] at E3
          go_wp2_with fail
          refine (E3 _).mono ?_
          clear E3
          rintro e w2 ⟨rfl, rfl⟩
          go_wp2_with fail
          go_ret
          exact ⟨rfl, hf1.toBelow0⟩
      · rw [decide_eq_false hs] at K6
        rw [decide_eq_true (by omega)] at K7
        go_enter Try.func4, Try.ntmps4
        go_wp2_with fail
        refine KL.mono ?_
        clear KL
        rintro e w1 ⟨rfl, hf1⟩
        go_wp2_with fail
        refine (N1 _).mono ?_
        clear N1
        rintro e w2 ⟨rfl, rfl⟩
        go_wp2_with fail
        refine (N2 _).mono ?_
        clear N2
        rintro e w2 ⟨rfl, rfl⟩
        go_wp2_with fail
        refine (N3 _).mono ?_
        clear N3
        rintro e w2 ⟨rfl, rfl⟩
        go_wp2_with fail
        refine (N4 _).mono ?_
        clear N4
        rintro e w2 ⟨rfl, rfl⟩
        go_wp2_with fail
        refine (N5 _).mono ?_
        clear N5
        rintro e w2 ⟨rfl, rfl⟩
        go_wp2_with fail
        refine (K1 _).mono ?_
        clear K1
        rintro e w2 ⟨rfl, rfl⟩
        go_wp2_with fail
        refine (K3 _).mono ?_
        rintro e w2 ⟨rfl, rfl⟩
        go_wp2_with fail
        refine (K4 _).mono ?_
        clear K4
        rintro e w2 ⟨rfl, rfl⟩
        go_wp2_with fail
        refine (K6 _).mono ?_
        clear K6
        rintro e w2 ⟨rfl, rfl⟩
        go_wp2_with fail
        refine (K7 _).mono ?_
        clear K7
        rintro e w2 ⟨rfl, rfl⟩
        go_wp2_with fail
        refine (K3 _).mono ?_
        clear K3
        rintro e w2 ⟨rfl, rfl⟩
        go_wp2_with fail
        refine (E1 _).mono ?_
        clear E1
        rintro e w2 ⟨rfl, rfl⟩
        go_wp2_with fail
        refine (E2 _).mono ?_
        clear E2
        rintro e w2 ⟨rfl, rfl⟩
        by_cases hk0 : k = 0
        · subst hk0
          clear E3
          go_wp2_with fail
          go_ret
          exact ⟨rfl, hf1.toBelow0⟩
        · have hkp : (0 : Int) < (k : Int) := by omega
          rw [decide_eq_true hkp] at E3
          go_wp2_with fail
          refine (E3 _).mono ?_
          clear E3
          rintro e w2 ⟨rfl, rfl⟩
          go_wp2_with fail
          go_ret
          exact ⟨rfl, hf1.toBelow0⟩
end Go.Proofs.Ytbmjbpehoohdlaa
