/-
  No cell of these rows narrows 'for every input' (looked for: loops, veiled, ifaces, maps, wideKeys, modest, calm, conditions, laid).
  DERIVED. THE GIVEN ROWS OF THIS SEAT. 13 by the template 'for every input the law returns true; each argument reads behind the call as it read before'; 0 by the template 'total and deterministic' (their statements: YtginfnbdnkgjbaaGreatTotals.lean).
  GIVEN WITH THE SEED: the statements are not yours to turn. If you find one false, say at which input.
  Laid BY PROGRAM, IN A SANDBOX (cutbox-rows.mjs): the forced cells as the released guide's own fill.sh prints them over the translation 33a030c1a18e84a8… (all of the seat's roots in one cut). By AI agents, Wed Nov 11 2026. No macro, syntax, notation, axiom, sorry.
-/
import Derived.Test.YtginfnbdnkgjbaaGreatChecked
import GoSem.Claim
import GoSem.ClaimJoined
import GoSem.ClaimMapViews
import Derived.JoinedTies
import Derived.KernelRfl
namespace Go.Proofs.YtginfnbdnkgjbaaGreat
/- THE CELL 'sum', in the pinned program and in every row, IS THE sha256 OF THE DUMP (.gsa) THAT YtginfnbdnkgjbaaGreatProg.lean LOADS. Nothing in Lean hashes anything: it is a label: what it is worth is what the hold of that sum in a sandbox is worth. -/
noncomputable def Tryz.pinned : Pinned := { name := "ytginfnbdnkgjbaagreat", sum := "33a030c1a18e84a8688d76c33148947b708aa580c454ecb91f0518cde3f24322", checked := Tryz.checked }
namespace Rows
def none {H : Type} : Left H := { results := [], args := [] }

/-- 'ballastlaw13.LocksCalls': WHATEVER THE INPUT: true; the input reads as it did. -/
def locksCallsSpec : ChangeSpec := { name := "locksCalls", fn := fun _ => fun
  | [d1, d2, d3] => { results := [.lit (.bool true)], args := [d1, d2, d3] }
  | _ => none }
def locksCallsRow : OpenClaim := { program := "ytginfnbdnkgjbaagreat", sum := "33a030c1a18e84a8688d76c33148947b708aa580c454ecb91f0518cde3f24322", func := "ballast/ballastlaw13.LocksCalls", spec := "locksCalls", unfollowed := true, recurses := true, apart := false }
def LocksCallsSaid : Prop := locksCallsRow.holds Tryz.pinned (OpenSpec.ofChange locksCallsSpec)

/-- ITS FALSE NEIGHBOUR: 'it returns false'. Refute it at one input. -/
def locksCallsWrong : ChangeSpec := { name := "locksCalls", fn := fun _ => fun
  | [d1, d2, d3] => { results := [.lit (.bool false)], args := [d1, d2, d3] }
  | _ => none }
def LocksCallsWrongFalsely : Prop := locksCallsRow.holds Tryz.pinned (OpenSpec.ofChange locksCallsWrong)

/-- 'ballastlaw13.LocksNew': WHATEVER THE INPUT: true; the input reads as it did. -/
def locksNewSpec : ChangeSpec := { name := "locksNew", fn := fun _ => fun
  | [d1, d2] => { results := [.lit (.bool true)], args := [d1, d2] }
  | _ => none }
def locksNewRow : OpenClaim := { program := "ytginfnbdnkgjbaagreat", sum := "33a030c1a18e84a8688d76c33148947b708aa580c454ecb91f0518cde3f24322", func := "ballast/ballastlaw13.LocksNew", spec := "locksNew", unfollowed := true, recurses := true, apart := false }
def LocksNewSaid : Prop := locksNewRow.holds Tryz.pinned (OpenSpec.ofChange locksNewSpec)

/-- ITS FALSE NEIGHBOUR: 'it returns false'. Refute it at one input. -/
def locksNewWrong : ChangeSpec := { name := "locksNew", fn := fun _ => fun
  | [d1, d2] => { results := [.lit (.bool false)], args := [d1, d2] }
  | _ => none }
def LocksNewWrongFalsely : Prop := locksNewRow.holds Tryz.pinned (OpenSpec.ofChange locksNewWrong)

/-- 'ballastlaw13.LocksRows': WHATEVER THE INPUT: true; the input reads as it did. -/
def locksRowsSpec : ChangeSpec := { name := "locksRows", fn := fun _ => fun
  | [d1, d2, d3] => { results := [.lit (.bool true)], args := [d1, d2, d3] }
  | _ => none }
def locksRowsRow : OpenClaim := { program := "ytginfnbdnkgjbaagreat", sum := "33a030c1a18e84a8688d76c33148947b708aa580c454ecb91f0518cde3f24322", func := "ballast/ballastlaw13.LocksRows", spec := "locksRows", unfollowed := true, recurses := true, apart := false }
def LocksRowsSaid : Prop := locksRowsRow.holds Tryz.pinned (OpenSpec.ofChange locksRowsSpec)

/-- ITS FALSE NEIGHBOUR: 'it returns false'. Refute it at one input. -/
def locksRowsWrong : ChangeSpec := { name := "locksRows", fn := fun _ => fun
  | [d1, d2, d3] => { results := [.lit (.bool false)], args := [d1, d2, d3] }
  | _ => none }
def LocksRowsWrongFalsely : Prop := locksRowsRow.holds Tryz.pinned (OpenSpec.ofChange locksRowsWrong)

/-- 'ballastlaw13.LocksSaves': WHATEVER THE INPUT: true; the input reads as it did. -/
def locksSavesSpec : ChangeSpec := { name := "locksSaves", fn := fun _ => fun
  | [d1, d2, d3] => { results := [.lit (.bool true)], args := [d1, d2, d3] }
  | _ => none }
def locksSavesRow : OpenClaim := { program := "ytginfnbdnkgjbaagreat", sum := "33a030c1a18e84a8688d76c33148947b708aa580c454ecb91f0518cde3f24322", func := "ballast/ballastlaw13.LocksSaves", spec := "locksSaves", unfollowed := true, recurses := true, apart := false }
def LocksSavesSaid : Prop := locksSavesRow.holds Tryz.pinned (OpenSpec.ofChange locksSavesSpec)

/-- ITS FALSE NEIGHBOUR: 'it returns false'. Refute it at one input. -/
def locksSavesWrong : ChangeSpec := { name := "locksSaves", fn := fun _ => fun
  | [d1, d2, d3] => { results := [.lit (.bool false)], args := [d1, d2, d3] }
  | _ => none }
def LocksSavesWrongFalsely : Prop := locksSavesRow.holds Tryz.pinned (OpenSpec.ofChange locksSavesWrong)

/-- 'ballastlaw13.LocksApart': WHATEVER THE INPUT: true; the input reads as it did. -/
def locksApartSpec : ChangeSpec := { name := "locksApart", fn := fun _ => fun
  | [d1, d2, d3] => { results := [.lit (.bool true)], args := [d1, d2, d3] }
  | _ => none }
def locksApartRow : OpenClaim := { program := "ytginfnbdnkgjbaagreat", sum := "33a030c1a18e84a8688d76c33148947b708aa580c454ecb91f0518cde3f24322", func := "ballast/ballastlaw13.LocksApart", spec := "locksApart", unfollowed := true, recurses := true, apart := false }
def LocksApartSaid : Prop := locksApartRow.holds Tryz.pinned (OpenSpec.ofChange locksApartSpec)

/-- ITS FALSE NEIGHBOUR: 'it returns false'. Refute it at one input. -/
def locksApartWrong : ChangeSpec := { name := "locksApart", fn := fun _ => fun
  | [d1, d2, d3] => { results := [.lit (.bool false)], args := [d1, d2, d3] }
  | _ => none }
def LocksApartWrongFalsely : Prop := locksApartRow.holds Tryz.pinned (OpenSpec.ofChange locksApartWrong)

/-- 'ballastlaw13.LocksTwice': WHATEVER THE INPUT: true; the input reads as it did. -/
def locksTwiceSpec : ChangeSpec := { name := "locksTwice", fn := fun _ => fun
  | [d1, d2, d3] => { results := [.lit (.bool true)], args := [d1, d2, d3] }
  | _ => none }
def locksTwiceRow : OpenClaim := { program := "ytginfnbdnkgjbaagreat", sum := "33a030c1a18e84a8688d76c33148947b708aa580c454ecb91f0518cde3f24322", func := "ballast/ballastlaw13.LocksTwice", spec := "locksTwice", unfollowed := true, recurses := true, apart := false }
def LocksTwiceSaid : Prop := locksTwiceRow.holds Tryz.pinned (OpenSpec.ofChange locksTwiceSpec)

/-- ITS FALSE NEIGHBOUR: 'it returns false'. Refute it at one input. -/
def locksTwiceWrong : ChangeSpec := { name := "locksTwice", fn := fun _ => fun
  | [d1, d2, d3] => { results := [.lit (.bool false)], args := [d1, d2, d3] }
  | _ => none }
def LocksTwiceWrongFalsely : Prop := locksTwiceRow.holds Tryz.pinned (OpenSpec.ofChange locksTwiceWrong)

/-- 'ballastlaw13.LocksColds': WHATEVER THE INPUT: true; the input reads as it did. -/
def locksColdsSpec : ChangeSpec := { name := "locksColds", fn := fun _ => fun
  | [d1, d2, d3] => { results := [.lit (.bool true)], args := [d1, d2, d3] }
  | _ => none }
def locksColdsRow : OpenClaim := { program := "ytginfnbdnkgjbaagreat", sum := "33a030c1a18e84a8688d76c33148947b708aa580c454ecb91f0518cde3f24322", func := "ballast/ballastlaw13.LocksColds", spec := "locksColds", unfollowed := true, recurses := true, apart := false }
def LocksColdsSaid : Prop := locksColdsRow.holds Tryz.pinned (OpenSpec.ofChange locksColdsSpec)

/-- ITS FALSE NEIGHBOUR: 'it returns false'. Refute it at one input. -/
def locksColdsWrong : ChangeSpec := { name := "locksColds", fn := fun _ => fun
  | [d1, d2, d3] => { results := [.lit (.bool false)], args := [d1, d2, d3] }
  | _ => none }
def LocksColdsWrongFalsely : Prop := locksColdsRow.holds Tryz.pinned (OpenSpec.ofChange locksColdsWrong)

/-- 'ballastlaw14.KernelSteps': WHATEVER THE INPUT: true; the input reads as it did. -/
def kernelStepsSpec : ChangeSpec := { name := "kernelSteps", fn := fun _ => fun
  | [d1, d2, d3] => { results := [.lit (.bool true)], args := [d1, d2, d3] }
  | _ => none }
def kernelStepsRow : OpenClaim := { program := "ytginfnbdnkgjbaagreat", sum := "33a030c1a18e84a8688d76c33148947b708aa580c454ecb91f0518cde3f24322", func := "ballast/ballastlaw14.KernelSteps", spec := "kernelSteps", unfollowed := true, recurses := true, apart := false }
def KernelStepsSaid : Prop := kernelStepsRow.holds Tryz.pinned (OpenSpec.ofChange kernelStepsSpec)

/-- ITS FALSE NEIGHBOUR: 'it returns false'. Refute it at one input. -/
def kernelStepsWrong : ChangeSpec := { name := "kernelSteps", fn := fun _ => fun
  | [d1, d2, d3] => { results := [.lit (.bool false)], args := [d1, d2, d3] }
  | _ => none }
def KernelStepsWrongFalsely : Prop := kernelStepsRow.holds Tryz.pinned (OpenSpec.ofChange kernelStepsWrong)

/-- 'ballastlaw14.KernelStops': WHATEVER THE INPUT: true; the input reads as it did. -/
def kernelStopsSpec : ChangeSpec := { name := "kernelStops", fn := fun _ => fun
  | [d1, d2, d3] => { results := [.lit (.bool true)], args := [d1, d2, d3] }
  | _ => none }
def kernelStopsRow : OpenClaim := { program := "ytginfnbdnkgjbaagreat", sum := "33a030c1a18e84a8688d76c33148947b708aa580c454ecb91f0518cde3f24322", func := "ballast/ballastlaw14.KernelStops", spec := "kernelStops", unfollowed := true, recurses := true, apart := false }
def KernelStopsSaid : Prop := kernelStopsRow.holds Tryz.pinned (OpenSpec.ofChange kernelStopsSpec)

/-- ITS FALSE NEIGHBOUR: 'it returns false'. Refute it at one input. -/
def kernelStopsWrong : ChangeSpec := { name := "kernelStops", fn := fun _ => fun
  | [d1, d2, d3] => { results := [.lit (.bool false)], args := [d1, d2, d3] }
  | _ => none }
def KernelStopsWrongFalsely : Prop := kernelStopsRow.holds Tryz.pinned (OpenSpec.ofChange kernelStopsWrong)

/-- 'ballastlaw14.KernelFrees': WHATEVER THE INPUT: true; the input reads as it did. -/
def kernelFreesSpec : ChangeSpec := { name := "kernelFrees", fn := fun _ => fun
  | [d1, d2, d3] => { results := [.lit (.bool true)], args := [d1, d2, d3] }
  | _ => none }
def kernelFreesRow : OpenClaim := { program := "ytginfnbdnkgjbaagreat", sum := "33a030c1a18e84a8688d76c33148947b708aa580c454ecb91f0518cde3f24322", func := "ballast/ballastlaw14.KernelFrees", spec := "kernelFrees", unfollowed := true, recurses := true, apart := false }
def KernelFreesSaid : Prop := kernelFreesRow.holds Tryz.pinned (OpenSpec.ofChange kernelFreesSpec)

/-- ITS FALSE NEIGHBOUR: 'it returns false'. Refute it at one input. -/
def kernelFreesWrong : ChangeSpec := { name := "kernelFrees", fn := fun _ => fun
  | [d1, d2, d3] => { results := [.lit (.bool false)], args := [d1, d2, d3] }
  | _ => none }
def KernelFreesWrongFalsely : Prop := kernelFreesRow.holds Tryz.pinned (OpenSpec.ofChange kernelFreesWrong)

/-- 'ballastlaw14.KernelWorst': WHATEVER THE INPUT: true; the input reads as it did. -/
def kernelWorstSpec : ChangeSpec := { name := "kernelWorst", fn := fun _ => fun
  | [d1, d2, d3] => { results := [.lit (.bool true)], args := [d1, d2, d3] }
  | _ => none }
def kernelWorstRow : OpenClaim := { program := "ytginfnbdnkgjbaagreat", sum := "33a030c1a18e84a8688d76c33148947b708aa580c454ecb91f0518cde3f24322", func := "ballast/ballastlaw14.KernelWorst", spec := "kernelWorst", unfollowed := true, recurses := true, apart := false }
def KernelWorstSaid : Prop := kernelWorstRow.holds Tryz.pinned (OpenSpec.ofChange kernelWorstSpec)

/-- ITS FALSE NEIGHBOUR: 'it returns false'. Refute it at one input. -/
def kernelWorstWrong : ChangeSpec := { name := "kernelWorst", fn := fun _ => fun
  | [d1, d2, d3] => { results := [.lit (.bool false)], args := [d1, d2, d3] }
  | _ => none }
def KernelWorstWrongFalsely : Prop := kernelWorstRow.holds Tryz.pinned (OpenSpec.ofChange kernelWorstWrong)

/-- 'ballastlaw14.KernelGoesFree': WHATEVER THE INPUT: true; the input reads as it did. -/
def kernelGoesFreeSpec : ChangeSpec := { name := "kernelGoesFree", fn := fun _ => fun
  | [d1, d2] => { results := [.lit (.bool true)], args := [d1, d2] }
  | _ => none }
def kernelGoesFreeRow : OpenClaim := { program := "ytginfnbdnkgjbaagreat", sum := "33a030c1a18e84a8688d76c33148947b708aa580c454ecb91f0518cde3f24322", func := "ballast/ballastlaw14.KernelGoesFree", spec := "kernelGoesFree", unfollowed := true, recurses := true, apart := false }
def KernelGoesFreeSaid : Prop := kernelGoesFreeRow.holds Tryz.pinned (OpenSpec.ofChange kernelGoesFreeSpec)

/-- ITS FALSE NEIGHBOUR: 'it returns false'. Refute it at one input. -/
def kernelGoesFreeWrong : ChangeSpec := { name := "kernelGoesFree", fn := fun _ => fun
  | [d1, d2] => { results := [.lit (.bool false)], args := [d1, d2] }
  | _ => none }
def KernelGoesFreeWrongFalsely : Prop := kernelGoesFreeRow.holds Tryz.pinned (OpenSpec.ofChange kernelGoesFreeWrong)

/-- 'ballastlaw14.KernelRests': WHATEVER THE INPUT: true; the input reads as it did. -/
def kernelRestsSpec : ChangeSpec := { name := "kernelRests", fn := fun _ => fun
  | [d1, d2, d3] => { results := [.lit (.bool true)], args := [d1, d2, d3] }
  | _ => none }
def kernelRestsRow : OpenClaim := { program := "ytginfnbdnkgjbaagreat", sum := "33a030c1a18e84a8688d76c33148947b708aa580c454ecb91f0518cde3f24322", func := "ballast/ballastlaw14.KernelRests", spec := "kernelRests", unfollowed := true, recurses := true, apart := false }
def KernelRestsSaid : Prop := kernelRestsRow.holds Tryz.pinned (OpenSpec.ofChange kernelRestsSpec)

/-- ITS FALSE NEIGHBOUR: 'it returns false'. Refute it at one input. -/
def kernelRestsWrong : ChangeSpec := { name := "kernelRests", fn := fun _ => fun
  | [d1, d2, d3] => { results := [.lit (.bool false)], args := [d1, d2, d3] }
  | _ => none }
def KernelRestsWrongFalsely : Prop := kernelRestsRow.holds Tryz.pinned (OpenSpec.ofChange kernelRestsWrong)

/- THE SECOND FORM. 'bulk': how many values and letters a reading holds, each counted each time it is reached (what is shared counts as often as it is met; a slice's spare places count too). A statement '..UptoSaid' is the law's where the arguments, and the package variables that the reading takes, are together of bulk at most 1048576: NARROWER than '..Said'. Prove '..Said' where nothing that the law and all that it calls make is longer than what came in: it says more and counts as full. Else prove '..UptoSaid'. A law counts once. -/
mutual
def uptoBulk {H : Type} : DataW H → Nat
  | .lit (.string bytes) => bytes.length + 1
  | .lit _ => 1
  | .nil => 1
  | .ptr d => uptoBulk d + 1
  | .slice elems spare => uptoBulkAll elems + uptoBulkAll spare + 1
  | .agg parts => uptoBulkAll parts + 1
  | .iface _ d => uptoBulk d + 1
  | .map entries => uptoBulkEntries entries + 1
  | .held _ => 1
def uptoBulkAll {H : Type} : List (DataW H) → Nat
  | [] => 0
  | d :: r => uptoBulk d + uptoBulkAll r
def uptoBulkEntries {H : Type} : List (Lit × DataW H) → Nat
  | [] => 0
  | x :: r => uptoBulkEntry x + uptoBulkEntries r
def uptoBulkEntry {H : Type} : Lit × DataW H → Nat
  | (.string bytes, d) => bytes.length + uptoBulk d + 1
  | (_, d) => uptoBulk d + 1
 end
def uptoSmall : (H : Type) → List (DataW H) → Bool := fun _ ds => decide (uptoBulkAll ds ≤ 1048576)
def OpenSpec.upto (s : _root_.Go.ChangeSpec) : _root_.Go.OpenSpec := { _root_.Go.OpenSpec.ofChange s with cond := some uptoSmall }

/-- 'ballastlaw13.LocksCalls', WHERE WHAT IT READS IS OF BULK AT MOST 1048576: true; the input reads as it did. -/
def locksCallsUptoRow : OpenClaim := { program := "ytginfnbdnkgjbaagreat", sum := "33a030c1a18e84a8688d76c33148947b708aa580c454ecb91f0518cde3f24322", func := "ballast/ballastlaw13.LocksCalls", spec := "locksCalls", unfollowed := true, recurses := true, apart := false, narrowed := true }
def LocksCallsUptoSaid : Prop := locksCallsUptoRow.holds Tryz.pinned (OpenSpec.upto locksCallsSpec)

/-- 'ballastlaw13.LocksNew', WHERE WHAT IT READS IS OF BULK AT MOST 1048576: true; the input reads as it did. -/
def locksNewUptoRow : OpenClaim := { program := "ytginfnbdnkgjbaagreat", sum := "33a030c1a18e84a8688d76c33148947b708aa580c454ecb91f0518cde3f24322", func := "ballast/ballastlaw13.LocksNew", spec := "locksNew", unfollowed := true, recurses := true, apart := false, narrowed := true }
def LocksNewUptoSaid : Prop := locksNewUptoRow.holds Tryz.pinned (OpenSpec.upto locksNewSpec)

/-- 'ballastlaw13.LocksRows', WHERE WHAT IT READS IS OF BULK AT MOST 1048576: true; the input reads as it did. -/
def locksRowsUptoRow : OpenClaim := { program := "ytginfnbdnkgjbaagreat", sum := "33a030c1a18e84a8688d76c33148947b708aa580c454ecb91f0518cde3f24322", func := "ballast/ballastlaw13.LocksRows", spec := "locksRows", unfollowed := true, recurses := true, apart := false, narrowed := true }
def LocksRowsUptoSaid : Prop := locksRowsUptoRow.holds Tryz.pinned (OpenSpec.upto locksRowsSpec)

/-- 'ballastlaw13.LocksSaves', WHERE WHAT IT READS IS OF BULK AT MOST 1048576: true; the input reads as it did. -/
def locksSavesUptoRow : OpenClaim := { program := "ytginfnbdnkgjbaagreat", sum := "33a030c1a18e84a8688d76c33148947b708aa580c454ecb91f0518cde3f24322", func := "ballast/ballastlaw13.LocksSaves", spec := "locksSaves", unfollowed := true, recurses := true, apart := false, narrowed := true }
def LocksSavesUptoSaid : Prop := locksSavesUptoRow.holds Tryz.pinned (OpenSpec.upto locksSavesSpec)

/-- 'ballastlaw13.LocksApart', WHERE WHAT IT READS IS OF BULK AT MOST 1048576: true; the input reads as it did. -/
def locksApartUptoRow : OpenClaim := { program := "ytginfnbdnkgjbaagreat", sum := "33a030c1a18e84a8688d76c33148947b708aa580c454ecb91f0518cde3f24322", func := "ballast/ballastlaw13.LocksApart", spec := "locksApart", unfollowed := true, recurses := true, apart := false, narrowed := true }
def LocksApartUptoSaid : Prop := locksApartUptoRow.holds Tryz.pinned (OpenSpec.upto locksApartSpec)

/-- 'ballastlaw13.LocksTwice', WHERE WHAT IT READS IS OF BULK AT MOST 1048576: true; the input reads as it did. -/
def locksTwiceUptoRow : OpenClaim := { program := "ytginfnbdnkgjbaagreat", sum := "33a030c1a18e84a8688d76c33148947b708aa580c454ecb91f0518cde3f24322", func := "ballast/ballastlaw13.LocksTwice", spec := "locksTwice", unfollowed := true, recurses := true, apart := false, narrowed := true }
def LocksTwiceUptoSaid : Prop := locksTwiceUptoRow.holds Tryz.pinned (OpenSpec.upto locksTwiceSpec)

/-- 'ballastlaw13.LocksColds', WHERE WHAT IT READS IS OF BULK AT MOST 1048576: true; the input reads as it did. -/
def locksColdsUptoRow : OpenClaim := { program := "ytginfnbdnkgjbaagreat", sum := "33a030c1a18e84a8688d76c33148947b708aa580c454ecb91f0518cde3f24322", func := "ballast/ballastlaw13.LocksColds", spec := "locksColds", unfollowed := true, recurses := true, apart := false, narrowed := true }
def LocksColdsUptoSaid : Prop := locksColdsUptoRow.holds Tryz.pinned (OpenSpec.upto locksColdsSpec)

/-- 'ballastlaw14.KernelSteps', WHERE WHAT IT READS IS OF BULK AT MOST 1048576: true; the input reads as it did. -/
def kernelStepsUptoRow : OpenClaim := { program := "ytginfnbdnkgjbaagreat", sum := "33a030c1a18e84a8688d76c33148947b708aa580c454ecb91f0518cde3f24322", func := "ballast/ballastlaw14.KernelSteps", spec := "kernelSteps", unfollowed := true, recurses := true, apart := false, narrowed := true }
def KernelStepsUptoSaid : Prop := kernelStepsUptoRow.holds Tryz.pinned (OpenSpec.upto kernelStepsSpec)

/-- 'ballastlaw14.KernelStops', WHERE WHAT IT READS IS OF BULK AT MOST 1048576: true; the input reads as it did. -/
def kernelStopsUptoRow : OpenClaim := { program := "ytginfnbdnkgjbaagreat", sum := "33a030c1a18e84a8688d76c33148947b708aa580c454ecb91f0518cde3f24322", func := "ballast/ballastlaw14.KernelStops", spec := "kernelStops", unfollowed := true, recurses := true, apart := false, narrowed := true }
def KernelStopsUptoSaid : Prop := kernelStopsUptoRow.holds Tryz.pinned (OpenSpec.upto kernelStopsSpec)

/-- 'ballastlaw14.KernelFrees', WHERE WHAT IT READS IS OF BULK AT MOST 1048576: true; the input reads as it did. -/
def kernelFreesUptoRow : OpenClaim := { program := "ytginfnbdnkgjbaagreat", sum := "33a030c1a18e84a8688d76c33148947b708aa580c454ecb91f0518cde3f24322", func := "ballast/ballastlaw14.KernelFrees", spec := "kernelFrees", unfollowed := true, recurses := true, apart := false, narrowed := true }
def KernelFreesUptoSaid : Prop := kernelFreesUptoRow.holds Tryz.pinned (OpenSpec.upto kernelFreesSpec)

/-- 'ballastlaw14.KernelWorst', WHERE WHAT IT READS IS OF BULK AT MOST 1048576: true; the input reads as it did. -/
def kernelWorstUptoRow : OpenClaim := { program := "ytginfnbdnkgjbaagreat", sum := "33a030c1a18e84a8688d76c33148947b708aa580c454ecb91f0518cde3f24322", func := "ballast/ballastlaw14.KernelWorst", spec := "kernelWorst", unfollowed := true, recurses := true, apart := false, narrowed := true }
def KernelWorstUptoSaid : Prop := kernelWorstUptoRow.holds Tryz.pinned (OpenSpec.upto kernelWorstSpec)

/-- 'ballastlaw14.KernelGoesFree', WHERE WHAT IT READS IS OF BULK AT MOST 1048576: true; the input reads as it did. -/
def kernelGoesFreeUptoRow : OpenClaim := { program := "ytginfnbdnkgjbaagreat", sum := "33a030c1a18e84a8688d76c33148947b708aa580c454ecb91f0518cde3f24322", func := "ballast/ballastlaw14.KernelGoesFree", spec := "kernelGoesFree", unfollowed := true, recurses := true, apart := false, narrowed := true }
def KernelGoesFreeUptoSaid : Prop := kernelGoesFreeUptoRow.holds Tryz.pinned (OpenSpec.upto kernelGoesFreeSpec)

/-- 'ballastlaw14.KernelRests', WHERE WHAT IT READS IS OF BULK AT MOST 1048576: true; the input reads as it did. -/
def kernelRestsUptoRow : OpenClaim := { program := "ytginfnbdnkgjbaagreat", sum := "33a030c1a18e84a8688d76c33148947b708aa580c454ecb91f0518cde3f24322", func := "ballast/ballastlaw14.KernelRests", spec := "kernelRests", unfollowed := true, recurses := true, apart := false, narrowed := true }
def KernelRestsUptoSaid : Prop := kernelRestsUptoRow.holds Tryz.pinned (OpenSpec.upto kernelRestsSpec)

end Rows
end Go.Proofs.YtginfnbdnkgjbaaGreat
