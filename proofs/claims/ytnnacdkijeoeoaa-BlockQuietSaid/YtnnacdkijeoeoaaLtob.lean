/- What a law's walk leaves, in the form that its last text wants. -/
import Derived.Test.YtnnacdkijeoeoaaLm
namespace Go.Proofs.Ytnnacdkijeoeoaa.Lk
open Go.RowKit
theorem toB {P : Program} {f : FuncId} {args : Array Value} {w : World} {v : Value} (h : Calls P f args w fun e w' => e = .returned v ∧ Fr (fun _ => False) w w') : Calls P f args w fun e w' => e = .returned v ∧ Below w.heap.size w w' :=
  h.mono fun _ _ ⟨he, hf⟩ => ⟨he, hf.toBelow0⟩
end Go.Proofs.Ytnnacdkijeoeoaa.Lk
