/- The contracts of the small tests: is this a section, an end; in which position a section stands; does an end stand in a joint. -/
import Derived.Test.YtgommmaipifpaaaNext
import Derived.BigQuiet
namespace Go.Proofs.Ytgommmaipifpaaa
open Go.RowKit

def isSecB (n : Nat) (s : Int) : Bool := decide (0 ≤ s) && decide (s < n)
def kindOf (l : List Sec) (s : Nat) : Int := (l.getD s default).kind
def isEndB (l : List Sec) (s e : Int) : Bool := isSecB l.length s && (decide (0 ≤ e) && decide (e < endsM (kindOf l s.toNat)))
def posAt (p : List Int) (s : Nat) : Int := p.getD s 0

theorem kindOf_at {l : List Sec} {s : Nat} (h : s < l.length) : kindOf l s = l[s].kind := by
  unfold kindOf
  rw [List.getD_eq_getElem?_getD, List.getElem?_eq_getElem h]
  rfl
theorem isSecB_true {n : Nat} {s : Int} (h : isSecB n s = true) : ∃ k : Nat, s = k ∧ k < n := by
  unfold isSecB at h
  simp at h
  exact ⟨s.toNat, by omega, by omega⟩
theorem isSecB_nat {n k : Nat} (h : k < n) : isSecB n k = true := by
  unfold isSecB
  simp [h]
theorem isSecB_false {n : Nat} {s : Int} (h : isSecB n s = false) : s < 0 ∨ (n : Int) ≤ s := by
  unfold isSecB at h
  simp at h
  omega

theorem issec_any {A : Option Addr} {c n : Nat} (s : Int) (w : World) : Calls Try.prog 35 #[.slice A n c, .int .i64 s] w fun e w' => e = .returned (.bool (isSecB n s)) ∧ w = w' := by
  unfold isSecB
  by_cases h1 : 0 ≤ s
  · rw [show decide (0 ≤ s) = true by simp [h1], Bool.true_and]
    by_cases h2 : s < n
    · rw [show decide (s < n) = true by simp [h2]]
      go_enter Try.func35, Try.ntmps35
      go_wp2
      go_ret
      exact ⟨rfl, rfl⟩
    · rw [show decide (s < n) = false by simp [h2]]
      have h3 : decide (s < n) = false := by simp [h2]
      clear h2
      go_enter Try.func35, Try.ntmps35
      go_wp2
      go_ret
      exact ⟨rfl, rfl⟩
  · rw [show decide (0 ≤ s) = false by simp [h1], Bool.false_and]
    have h3 : s < 0 := by omega
    clear h1
    go_enter Try.func35, Try.ntmps35
    go_wp2
    go_ret
    exact ⟨rfl, rfl⟩

set_option maxHeartbeats 1000000 in
theorem isend_any {A : Option Addr} {c : Nat} {l : List Sec} (s e : Int) (w : World) (hr : Rd w A (cellsS l)) :
    Calls Try.prog 34 #[.slice A l.length c, .int .i64 s, .int .i64 e] w fun x w' => x = .returned (.bool (isEndB l s e)) ∧ w = w' := by
  unfold isEndB
  have KS := fun w => issec_any (A := A) (c := c) (n := l.length) s w
  cases hs : isSecB l.length s
  · rw [Bool.false_and]
    rw [hs] at KS
    clear hs
    go_enter Try.func34, Try.ntmps34
    go_wp2_with fail
    refine (KS _).mono ?_
    rintro x w1 ⟨rfl, rfl⟩
    go_wp2
    go_ret
    exact ⟨rfl, rfl⟩
  · rw [Bool.true_and]
    rw [hs] at KS
    obtain ⟨k, rfl, hk⟩ := isSecB_true hs
    obtain ⟨g, o, rfl, c0, _, _⟩ := rd_sec hr hk
    rw [Int.toNat_natCast, kindOf_at hk]
    generalize l[k].kind = kd at *
    clear hs hr
    by_cases h1 : 0 ≤ e
    · rw [show decide (0 ≤ e) = true by simp [h1], Bool.true_and]
      have KE := fun w => ends_any kd w
      by_cases h2 : e < endsM kd
      · rw [show decide (e < endsM kd) = true by simp [h2]]
        generalize endsM kd = n at *
        go_enter Try.func34, Try.ntmps34
        go_wp2_with fail
        refine (KS _).mono ?_
        rintro x w1 ⟨rfl, rfl⟩
        go_wp2_with fail
        refine (KE _).mono ?_
        rintro x w1 ⟨rfl, rfl⟩
        go_wp2
        go_ret
        exact ⟨rfl, rfl⟩
      · rw [show decide (e < endsM kd) = false by simp [h2]]
        have h3 : decide (e < endsM kd) = false := by simp [h2]
        clear h2
        generalize endsM kd = n at *
        go_enter Try.func34, Try.ntmps34
        go_wp2_with fail
        refine (KS _).mono ?_
        rintro x w1 ⟨rfl, rfl⟩
        go_wp2_with fail
        refine (KE _).mono ?_
        rintro x w1 ⟨rfl, rfl⟩
        go_wp2
        go_ret
        exact ⟨rfl, rfl⟩
    · rw [show decide (0 ≤ e) = false by simp [h1], Bool.false_and]
      have h3 : e < 0 := by omega
      clear h1
      go_enter Try.func34, Try.ntmps34
      go_wp2_with fail
      refine (KS _).mono ?_
      rintro x w1 ⟨rfl, rfl⟩
      go_wp2
      go_ret
      exact ⟨rfl, rfl⟩

theorem position_any {A : Option Addr} {c : Nat} {p : List Int} (s : Nat) (w : World) (hr : Rd w A (p.map (Value.int .i64))) (hl : p.length ≤ 9223372036854775807) (hs : s ≤ 9223372036854775807) :
    Calls Try.prog 36 #[.slice A p.length c, .int .i64 (s : Nat)] w fun x w' => x = .returned (.int .i64 (posAt p s)) ∧ w = w' := by
  by_cases h : s < p.length
  · have e1 : posAt p s = p[s] := by unfold posAt; rw [List.getD_eq_getElem?_getD, List.getElem?_eq_getElem h]; rfl
    obtain ⟨g, o, rfl, _, hc⟩ := hr (by rw [List.length_map]; omega)
    have c0 := hc s (.int .i64 p[s]) (by rw [List.getElem?_map, List.getElem?_eq_getElem h]; rfl)
    rw [e1]
    generalize p[s] = v at *
    clear hc e1 hr
    go_enter Try.func36, Try.ntmps36
    go_wp2
    go_ret
    exact ⟨rfl, rfl⟩
  · have e1 : posAt p s = 0 := by unfold posAt; rw [List.getD_eq_getElem?_getD, List.getElem?_eq_none (by omega)]; rfl
    rw [e1]
    clear hr e1
    go_enter Try.func36, Try.ntmps36
    go_wp2
    go_ret
    exact ⟨rfl, rfl⟩

theorem stands_any {A : Option Addr} {c : Nat} {l : List Jo} (s e : Int) (w : World) (hr : Rd w A (cellsJ l)) (hl : l.length ≤ 9223372036854775807) :
    Calls Try.prog 37 #[.slice A l.length c, .int .i64 s, .int .i64 e] w fun x w' => x = .returned (.bool (nextOk l s e)) ∧ Fr (fun _ => False) w w' := by
  have K := next_any (c := c) s e w hr hl
  generalize nextS l s e = S at *
  generalize nextE l s e = E at *
  generalize nextOk l s e = O at *
  clear hr
  go_enter Try.func37, Try.ntmps37
  go_wp2_with fail
  refine K.mono ?_
  rintro x w1 ⟨rfl, f1⟩
  go_wp2
  go_ret
  exact ⟨rfl, f1⟩
end Go.Proofs.Ytgommmaipifpaaa
