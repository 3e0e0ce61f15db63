/- Contracts and plain mathematics of earlier stages: Refk. -/
import Derived.Test.YtnnacdkijeoeoaaKj
import Derived.Test.YtnnacdkijeoeoaaKc
namespace Go.Proofs.Ytnnacdkijeoeoaa
open Go.RowKit

def secsL : List St → List Int
  | [] => []
  | v :: r => [v.sec] ++ secsL r
theorem secsL_append : ∀ (a b : List St), secsL (a ++ b) = secsL a ++ secsL b
  | [], _ => rfl
  | v :: r, b => by rw [List.cons_append, secsL, secsL, secsL_append r b, List.append_assoc]
theorem secsL_length : ∀ (l : List St), (secsL l).length = l.length * 1
  | [] => rfl
  | v :: r => by
    rw [secsL, List.length_append, secsL_length r, List.length_cons]
    simp only [List.length_cons, List.length_nil]
    omega
theorem secsL_map : ∀ (p : List St), secsL p = p.map St.sec
  | [] => rfl
  | x :: r => by rw [secsL, List.map_cons, secsL_map r]; rfl
end Go.Proofs.Ytnnacdkijeoeoaa

