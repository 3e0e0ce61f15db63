/- The walk of SeqGaps: who goes on by the gap comes from the one to the other, and the gap back is its opposite, but for the half of the round. -/
import Derived.Test.YtbmjbpehoohdlaaLives
namespace Go.Proofs.Ytbmjbpehoohdlaa
open Go.RowKit

theorem gap_on (a b : Int) : ofZ (ofZ a + gapZ a b) = ofZ b := by unfold ofZ gapZ; omega
theorem gap_half {a b : Int} (h : gapZ a b = -32768) : gapZ b a = -32768 := by unfold gapZ at *; omega
theorem gap_back {a b : Int} (h : gapZ a b ≠ -32768) : gapZ b a = -gapZ a b := by unfold gapZ at *; omega

set_option maxRecDepth 100000 in
set_option maxHeartbeats 800000 in
theorem gaps_walk (a b : Int) (w : World) :
    Calls Try.prog 7 #[.int .i64 a, .int .i64 b] w fun e w' => e = .returned (.bool true) ∧ Below w.heap.size w w' := by
  have KL := lives_any w
  have K1 := gap_any a b
  have K2 := gap_any b a
  have K3 := of_any a
  have K4 := of_any b
  have K5 := of_any (ofZ a + gapZ a b)
  have K6 := newer_any a b
  have K7 := newer_any b a
  rw [gap_on] at K5
  have hb1 := gap_bd a b
  have hb2 := of_bd a
  by_cases hg : gapZ a b = -32768
  · rw [gap_half hg] at K2 K7
    rw [hg] at K1 K5 K6
    generalize ofZ a = x at *
    generalize ofZ b = y at *
    clear hg
    rw [show decide ((0 : Int) < -32768) = false from by decide] at K6 K7
    go_enter Try.func7, Try.ntmps7
    go_wp2_with fail
    refine KL.mono ?_
    clear KL
    rintro e w1 ⟨rfl, hf1⟩
    go_wp2_with fail
    refine (K1 _).mono ?_
    clear K1
    rintro e w2 ⟨rfl, rfl⟩
    go_wp2_with fail
    refine (K2 _).mono ?_
    clear K2
    rintro e w2 ⟨rfl, rfl⟩
    go_wp2_with fail
    refine (K3 _).mono ?_
    clear K3
    rintro e w2 ⟨rfl, rfl⟩
    go_wp2_with fail
    refine (K5 _).mono ?_
    clear K5
    rintro e w2 ⟨rfl, rfl⟩
    go_wp2_with fail
    refine (K4 _).mono ?_
    clear K4
    rintro e w2 ⟨rfl, rfl⟩
    go_wp2_with fail
    refine (K6 _).mono ?_
    clear K6
    rintro e w2 ⟨rfl, rfl⟩
    go_wp2_with fail
    refine (K7 _).mono ?_
    clear K7
    rintro e w2 ⟨rfl, rfl⟩
    go_wp2_with fail
    go_ret
    exact ⟨rfl, hf1.toBelow0⟩
  · rw [gap_back hg] at K2 K7
    generalize ofZ a = x at *
    generalize ofZ b = y at *
    generalize gapZ a b = g at *
    clear K7
    go_enter Try.func7, Try.ntmps7
    go_wp2_with fail
    refine KL.mono ?_
    clear KL
    rintro e w1 ⟨rfl, hf1⟩
    go_wp2_with fail
    refine (K1 _).mono ?_
    clear K1
    rintro e w2 ⟨rfl, rfl⟩
    go_wp2_with fail
    refine (K2 _).mono ?_
    clear K2
    rintro e w2 ⟨rfl, rfl⟩
    go_wp2_with fail
    refine (K3 _).mono ?_
    clear K3
    rintro e w2 ⟨rfl, rfl⟩
    go_wp2_with fail
    refine (K5 _).mono ?_
    clear K5
    rintro e w2 ⟨rfl, rfl⟩
    go_wp2_with fail
    refine (K4 _).mono ?_
    clear K4
    rintro e w2 ⟨rfl, rfl⟩
    go_wp2_with fail
    refine (K6 _).mono ?_
    clear K6
    rintro e w2 ⟨rfl, rfl⟩
    go_wp2_with fail
    go_ret
    exact ⟨rfl, hf1.toBelow0⟩
end Go.Proofs.Ytbmjbpehoohdlaa
