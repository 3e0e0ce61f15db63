/- Contracts and plain mathematics of earlier stages: Rfl. -/
import Derived.Test.YtnnacdkijeoeoaaKq
import Derived.Test.YtnnacdkijeoeoaaKw
import Derived.Deep.LoopGhost
import Derived.Test.YtnnacdkijeoeoaaKu
namespace Go.Proofs.Ytnnacdkijeoeoaa
open Go.RowKit

end Go.Proofs.Ytnnacdkijeoeoaa

