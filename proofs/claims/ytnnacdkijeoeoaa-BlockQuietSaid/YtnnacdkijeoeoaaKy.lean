/- Contracts and plain mathematics of earlier stages: Rap, Rsn. -/
import Derived.Test.YtnnacdkijeoeoaaKk
import Derived.Test.YtnnacdkijeoeoaaKe
import Derived.BigQuiet
import Derived.Deep.LoopGhost
import Derived.Test.YtnnacdkijeoeoaaKg
namespace Go.Proofs.Ytnnacdkijeoeoaa
open Go.RowKit

theorem not_sec {n : Nat} {s : Int} (h : isSecB n s = false) : s < 0 ∨ ∃ k : Nat, s = k ∧ n ≤ k := by
  unfold isSecB at h
  simp at h
  by_cases h0 : s < 0
  · exact .inl h0
  · exact .inr ⟨s.toNat, by omega, by omega⟩

/-- a signal of these at another place than that -/
def atL (s e b : Int) : List Sg → Int → Bool
  | [], _ => false
  | x :: r, i => (decide (x.sec = s) && (decide (x.fin = e) && !decide (i = b))) || atL s e b r (i + 1)
end Go.Proofs.Ytnnacdkijeoeoaa

namespace Go.Proofs.Ytnnacdkijeoeoaa
open Go.RowKit

theorem nd_ways6 (x y : Nd) : (x = y) ∨ (x ≠ y ∧ ¬ x.sec = y.sec) ∨ (x ≠ y ∧ x.sec = y.sec ∧ ¬ x.pos = y.pos) := by
  obtain ⟨a, b⟩ := x
  obtain ⟨c, d⟩ := y
  simp only [ne_eq, Nd.mk.injEq]
  omega

end Go.Proofs.Ytnnacdkijeoeoaa

