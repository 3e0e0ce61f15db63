/- The zero value of a memory, as far as it is wanted. -/
import Derived.Test.YtdoljggaoidljaaGreatProg
import Derived.KernelRfl
namespace Go.Proofs.YtdoljggaoidljaaGreat

theorem zero_mem : ∃ zs : Array Value, (∀ w, (zeroValue 62).run Tryz.prog w = .ok (.agg zs) w) ∧ zs.size = 98332 ∧ zs.toList.take 4 = [.int .i64 0, .int .i64 0, .map none, .bool false] ∧ zs.toList.drop 98308 = List.replicate 24 (.int .i64 0) :=
  ⟨(match Tryz.t62.zero with | some z => z.cells | none => #[]), fun w => by kernel_rfl, by kernel_rfl, by kernel_rfl, by kernel_rfl⟩
end Go.Proofs.YtdoljggaoidljaaGreat
