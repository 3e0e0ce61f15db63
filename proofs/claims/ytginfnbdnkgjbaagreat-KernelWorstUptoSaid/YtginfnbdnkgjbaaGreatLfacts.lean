/- Closed facts of the program, each asked once (all of them in one declaration ask for ten gigabytes). -/
import Derived.Test.YtginfnbdnkgjbaaGreatRows
import Derived.Test.YtginfnbdnkgjbaaGreatChecked
import Derived.SizedLaws
import Derived.JoinedCond
namespace Go.Proofs.YtginfnbdnkgjbaaGreat.Lk
theorem pf1 : laidOutB Tryz.checked.prog = true := by kernel_rfl
theorem pf2 : mapsRowed Tryz.checked.prog = true := by kernel_rfl
theorem pf3 : Tryz.checked.prog.stopsHeard = true := by kernel_rfl
theorem pf4 : Tryz.checked.prog.mayEnter = true := by kernel_rfl
theorem pf5 : (Rows.locksColdsRow.lifted == Tryz.checked.prog.liftsFinal) = true := by kernel_rfl
end Go.Proofs.YtginfnbdnkgjbaaGreat.Lk
