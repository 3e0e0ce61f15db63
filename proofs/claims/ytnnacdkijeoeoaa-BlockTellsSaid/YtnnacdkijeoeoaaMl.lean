/- Contracts and plain mathematics of earlier stages: Mrn, Mrx. -/
import Derived.Test.YtnnacdkijeoeoaaMk
import Derived.Deep.CutRange
namespace Go.Proofs.Ytnnacdkijeoeoaa.Mv
open Go.RowKit

end Go.Proofs.Ytnnacdkijeoeoaa.Mv

namespace Go.Proofs.Ytnnacdkijeoeoaa.Mv
open Go.RowKit

end Go.Proofs.Ytnnacdkijeoeoaa.Mv

