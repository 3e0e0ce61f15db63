/- Contracts and plain mathematics of earlier stages: Rov. -/
import Derived.Test.YtnnacdkijeoeoaaKl
import Derived.Test.YtnnacdkijeoeoaaKf
import Derived.Deep.CutRange
namespace Go.Proofs.Ytnnacdkijeoeoaa
open Go.RowKit

theorem rnone (w w' : World) (f : Fr (fun _ => False) w w') : ∃ A c, (Ending.returned (.slice none 0 0)) = .returned (.slice A ([] : List Int).length c) ∧ w'.ownsRow w.heap.size 3 1 (.slice A ([] : List Int).length c) ([] : List Int).length (([] : List Int).map (Value.int .i64)) ∧ Fr (fun _ => False) w w' :=
  ⟨none, 0, rfl, World.ownsRow_nil _ _ _ _, f⟩

end Go.Proofs.Ytnnacdkijeoeoaa

