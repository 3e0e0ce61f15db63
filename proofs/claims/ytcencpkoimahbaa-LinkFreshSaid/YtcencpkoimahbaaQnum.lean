/- The contracts of Of, Next, Gap and Newer: which number stands for which, and how far one lies behind the other. -/
import Derived.Test.YtcencpkoimahbaaApp
import Derived.Laws.BitsAllLaws
namespace Go.Proofs.Ytcencpkoimahbaa.Sq
open Go.RowKit

/-- the number from 0 to 65535 that is meant -/
def ofZ (n : Int) : Int := n % 65536
/-- how far b lies behind a -/
def gapZ (a b : Int) : Int := (b - a + 32768) % 65536 - 32768

theorem wrap_i16 (n : Int) : IntKind.i16.wrap n = (n + 32768) % 65536 - 32768 := by
  have h : IntKind.i16.wrap n = if (decide (32768 ≤ n % 65536)) = true then n % 65536 - 65536 else n % 65536 := rfl
  rw [h]
  by_cases k : 32768 ≤ n % 65536
  · rw [if_pos (decide_eq_true k)]; omega
  · rw [if_neg (by simpa using k)]; omega
theorem of_wrap (n : Int) : wrap64 (IntKind.u16.wrap n) = ofZ n := by
  rw [IntKind.wrap_u16]
  unfold wrap64 ofZ
  omega
theorem gap_wrap (a b : Int) : wrap64 (IntKind.i16.wrap (wrap64 (b - a))) = gapZ a b := by
  rw [wrap_i16]
  unfold wrap64 gapZ
  omega
theorem of_next (n : Int) : ofZ (wrap64 (n + 1)) = ofZ (n + 1) := by
  unfold wrap64 ofZ
  omega
theorem of_bd (n : Int) : 0 ≤ ofZ n ∧ ofZ n < 65536 := by unfold ofZ; omega
theorem gap_bd (a b : Int) : -32768 ≤ gapZ a b ∧ gapZ a b < 32768 := by unfold gapZ; omega

theorem of_any (n : Int) (w : World) : Calls Try.prog 77 #[.int .i64 n] w fun e w' => e = .returned (.int .i64 (ofZ n)) ∧ w' = w := by
  go_enter Try.func77, Try.ntmps77
  go_wp2_with fail
  go_ret
  exact ⟨congrArg (fun x => Ending.returned (.int .i64 x)) (of_wrap n), rfl⟩
theorem gap_any (a b : Int) (w : World) : Calls Try.prog 75 #[.int .i64 a, .int .i64 b] w fun e w' => e = .returned (.int .i64 (gapZ a b)) ∧ w' = w := by
  go_enter Try.func75, Try.ntmps75
  go_wp2_with fail
  go_ret
  exact ⟨congrArg (fun x => Ending.returned (.int .i64 x)) (gap_wrap a b), rfl⟩
theorem next_any (n : Int) (w : World) : Calls Try.prog 63 #[.int .i64 n] w fun e w' => e = .returned (.int .i64 (ofZ (n + 1))) ∧ w' = w := by
  go_enter Try.func63, Try.ntmps63
  go_wp2_with fail
  refine (of_any _ w).mono ?_
  rintro e w1 ⟨rfl, rfl⟩
  rw [of_next]
  go_wp2
  go_ret
  exact ⟨rfl, rfl⟩
theorem newer_any (a b : Int) (w : World) : Calls Try.prog 61 #[.int .i64 a, .int .i64 b] w fun e w' => e = .returned (.bool (decide (0 < gapZ a b))) ∧ w' = w := by
  go_enter Try.func61, Try.ntmps61
  go_wp2_with fail
  refine (gap_any a b w).mono ?_
  rintro e w1 ⟨rfl, rfl⟩
  go_wp2
  go_ret
  exact ⟨rfl, rfl⟩
end Go.Proofs.Ytcencpkoimahbaa.Sq
