/- The contract of the document's SameSteps, at equal lists; and structs of whole numbers compared. -/
import Derived.Test.YtgommmaipifpaaaCheck
namespace Go.Proofs.Ytgommmaipifpaaa
open Go.RowKit

theorem cellsT_at {l : List St} {j : Nat} (h : j < l.length) : (cellsT l)[j * 3]? = some (.int .i64 l[j].sec) ∧ (cellsT l)[j * 3 + 1]? = some (.int .i64 l[j].inn) ∧ (cellsT l)[j * 3 + 2]? = some (.int .i64 l[j].out) := by
  induction l generalizing j with
  | nil => simp at h
  | cons v r ih =>
    have e : cellsT (v :: r) = [.int .i64 v.sec, .int .i64 v.inn, .int .i64 v.out] ++ cellsT r := rfl
    rcases j with _ | j
    · rw [e]; simp
    · have := ih (j := j) (by simpa using h)
      rw [e, show (j + 1) * 3 = 3 + j * 3 by omega, show 3 + j * 3 + 1 = 3 + (j * 3 + 1) by omega, show 3 + j * 3 + 2 = 3 + (j * 3 + 2) by omega]
      rw [List.getElem?_append_right (by simp), List.getElem?_append_right (by simp), List.getElem?_append_right (by simp)]
      simpa using this
theorem rd_st {w : World} {A : Option Addr} {l : List St} (h : Rd w A (cellsT l)) {j : Nat} (hj : j < l.length) : ∃ g o, A = some ⟨g, o, none⟩ ∧ w.cell? ⟨g, o + j * 3, none⟩ = some (.int .i64 l[j].sec) ∧ w.cell? ⟨g, o + j * 3 + 1, none⟩ = some (.int .i64 l[j].inn) ∧ w.cell? ⟨g, o + j * 3 + 2, none⟩ = some (.int .i64 l[j].out) := by
  obtain ⟨h0, h1, h2⟩ := cellsT_at hj
  obtain ⟨g, o, rfl, _, hc⟩ := h (by have := (List.getElem?_eq_some_iff.1 h0).1; omega)
  exact ⟨g, o, rfl, hc _ _ h0, hc _ _ h1, hc _ _ h2⟩

set_option maxHeartbeats 1000000 in
theorem samesteps_any {w : World} {A A' : Option Addr} {c c' : Nat} {l : List St} (h : Rd w A (cellsT l)) (h' : Rd w A' (cellsT l)) (hlen : l.length ≤ 140737488355328) :
    Calls Try.prog 23 #[.slice A l.length c, .slice A' l.length c'] w fun e w' => e = .returned (.bool true) ∧ Fr (fun _ => False) w w' := by
  go_enter Try.func23, Try.ntmps23
  go_wp2
  go_loopw [13] (fun i wr => ∃ k, k ≤ l.length ∧ i = .int .i64 (k : Nat) ∧ Fr (fun _ => False) w wr) (fun i _ => l.length - (intOf i).toNat)
  case atStart => exact ⟨0, Nat.zero_le _, rfl, Fr.refl _ _⟩
  case round =>
    obtain ⟨k, hk, rfl, g1⟩ := hrel
    by_cases hlt : k < l.length
    · obtain ⟨g, o, rfl, c0, c1, c2⟩ := rd_st (h.fr g1 fun _ _ => id) hlt
      obtain ⟨g', o', rfl, d0, d1, d2⟩ := rd_st (h'.fr g1 fun _ _ => id) hlt
      generalize l[k] = x at *
      obtain ⟨a, b, d⟩ := x
      simp only at *
      have i1 : (0 : Int) ≤ (k : Int) := by omega
      have i2 : (k : Int) < (l.length : Int) := by omega
      clear h h'
      go_wp2
      go_quiet (fail)
      go_wp2
      go_roundw
      case rel => exact ⟨k + 1, by omega, by go_num, g1.drewN nq⟩
      case measure => simp [intOf]; omega
    · go_wp2
      go_ret
      exact ⟨rfl, g1⟩
end Go.Proofs.Ytgommmaipifpaaa
