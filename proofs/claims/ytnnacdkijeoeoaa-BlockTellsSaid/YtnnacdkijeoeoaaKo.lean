/- Contracts and plain mathematics of earlier stages: Rpw. -/
import Derived.Test.YtnnacdkijeoeoaaKn
import Derived.Test.YtnnacdkijeoeoaaKm
import Derived.Test.YtnnacdkijeoeoaaKu
import Derived.Deep.RegionHeld3
namespace Go.Proofs.Ytnnacdkijeoeoaa
open Go.RowKit

/-- what is asked of a route's numbers before its path is gone along -/
def rpreB (sg : List Sg) (r : Rt) : Bool := isSecB sg.length r.entry && ((decide (r.exit = -1) || isSecB sg.length r.exit) && (decide (1 ≤ r.path.length) && decide (r.path.length ≤ 8)))

end Go.Proofs.Ytnnacdkijeoeoaa

