/- The contract of Check: is a plan right. -/
import Derived.Test.YtgommmaipifpaaaLines
namespace Go.Proofs.Ytgommmaipifpaaa
open Go.RowKit

def tk0 : List Bool := [false, false, false, false]
def checkB (l : List Sec) (js : List Jo) : Bool := sizesB l js && (sectionsB l && (jointsB l js && linesB js 0 tk0 l))
def errOf (b : Bool) : Int := if b = true then 0 else 6

theorem sizes_short {l : List Sec} {js : List Jo} (h : sizesB l js = true) : 1 ≤ l.length ∧ l.length ≤ 16 ∧ js.length ≤ 24 := by
  unfold sizesB at h
  simp at h
  omega

set_option maxHeartbeats 2000000 in
theorem check_any {A1 A2 : Option Addr} {c1 c2 : Nat} {l : List Sec} {js : List Jo} (w : World) (h1 : Rd w A1 (cellsS l)) (h2 : Rd w A2 (cellsJ js)) (hl : l.length ≤ 9223372036854775807) (hj : js.length ≤ c2) (hc2 : c2 ≤ 9223372036854775807) :
    Calls Try.prog 11 #[.slice A1 l.length c1, .slice A2 js.length c2] w fun x w' => x = .returned (.int .i64 (errOf (checkB l js))) ∧ Fr (fun _ => False) w w' := by
  unfold checkB
  have K1 := fun w => sizes_any (A1 := A1) (A2 := A2) (c1 := c1) (c2 := c2) l js w
  have K2 := fun w h => sections_any (c := c1) w (A := A1) (l := l) h hl
  have K3 := fun w h h' => joints_any (c1 := c1) (c2 := c2) w (A1 := A1) (A2 := A2) (l := l) (js := js) h h' hj hc2
  have K4 := fun w h h' hs => lines_any (c1 := c1) (c2 := c2) w (A1 := A1) (A2 := A2) (l := l) (js := js) h h' hl (by omega) hs
  have e6 : errOf false = 6 := rfl
  have e0 : errOf true = 0 := rfl
  cases x1 : sizesB l js
  · rw [x1] at K1
    rw [Bool.false_and, e6]
    clear x1 e6 e0
    go_enter Try.func11, Try.ntmps11
    go_wp2_with fail
    refine (K1 _).mono ?_
    clear K1
    rintro x w3 ⟨rfl, rfl⟩
    go_wp2_with fail
    go_ret
    exact ⟨rfl, Fr.refl _ _⟩
  · rw [x1] at K1
    rw [Bool.true_and]
    cases x2 : sectionsB l
    · rw [x2] at K2
      rw [Bool.false_and, e6]
      clear x1 x2 e6 e0 K4
      go_enter Try.func11, Try.ntmps11
      go_wp2_with fail
      refine (K1 _).mono ?_
      clear K1
      rintro x w3 ⟨rfl, rfl⟩
      go_wp2_with fail
      refine (K2 _ h1).mono ?_
      clear K2
      rintro x w4 ⟨rfl, f4⟩
      go_wp2_with fail
      go_ret
      exact ⟨rfl, f4⟩
    · rw [x2] at K2
      rw [Bool.true_and]
      cases x3 : jointsB l js
      · rw [x3] at K3
        rw [Bool.false_and, e6]
        clear x1 x2 x3 e6 e0 K4
        go_enter Try.func11, Try.ntmps11
        go_wp2_with fail
        refine (K1 _).mono ?_
        clear K1
        rintro x w3 ⟨rfl, rfl⟩
        go_wp2_with fail
        refine (K2 _ h1).mono ?_
        clear K2
        rintro x w4 ⟨rfl, f4⟩
        go_wp2_with fail
        refine (K3 _ (h1.fr f4 fun _ _ => id) (h2.fr f4 fun _ _ => id)).mono ?_
        clear K3
        rintro x w5 ⟨rfl, f5⟩
        go_wp2_with fail
        go_ret
        exact ⟨rfl, fr_nil f4 f5⟩
      · rw [x3] at K3
        rw [Bool.true_and]
        have K5 := fun w h h' => K4 w h h' x2
        cases x4 : linesB js 0 tk0 l
        · rw [show linesB js 0 [false, false, false, false] l = false from x4] at K5
          rw [e6]
          clear x1 x2 x3 x4 e6 e0 K4
          go_enter Try.func11, Try.ntmps11
          go_wp2_with fail
          refine (K1 _).mono ?_
          clear K1
          rintro x w3 ⟨rfl, rfl⟩
          go_wp2_with fail
          refine (K2 _ h1).mono ?_
          clear K2
          rintro x w4 ⟨rfl, f4⟩
          go_wp2_with fail
          refine (K3 _ (h1.fr f4 fun _ _ => id) (h2.fr f4 fun _ _ => id)).mono ?_
          clear K3
          rintro x w5 ⟨rfl, f5⟩
          have f6 := fr_nil f4 f5
          go_wp2_with fail
          refine (K5 _ (h1.fr f6 fun _ _ => id) (h2.fr f6 fun _ _ => id)).mono ?_
          clear K5
          rintro x w6 ⟨rfl, f7⟩
          go_wp2_with fail
          go_ret
          exact ⟨rfl, fr_nil f6 f7⟩
        · rw [show linesB js 0 [false, false, false, false] l = true from x4] at K5
          rw [e0]
          clear x1 x2 x3 x4 e6 e0 K4
          go_enter Try.func11, Try.ntmps11
          go_wp2_with fail
          refine (K1 _).mono ?_
          clear K1
          rintro x w3 ⟨rfl, rfl⟩
          go_wp2_with fail
          refine (K2 _ h1).mono ?_
          clear K2
          rintro x w4 ⟨rfl, f4⟩
          go_wp2_with fail
          refine (K3 _ (h1.fr f4 fun _ _ => id) (h2.fr f4 fun _ _ => id)).mono ?_
          clear K3
          rintro x w5 ⟨rfl, f5⟩
          have f6 := fr_nil f4 f5
          go_wp2_with fail
          refine (K5 _ (h1.fr f6 fun _ _ => id) (h2.fr f6 fun _ _ => id)).mono ?_
          clear K5
          rintro x w6 ⟨rfl, f7⟩
          go_wp2_with fail
          go_ret
          exact ⟨rfl, fr_nil f6 f7⟩
end Go.Proofs.Ytgommmaipifpaaa
