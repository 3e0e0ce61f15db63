/-
  No cell of these rows narrows 'for every input' (looked for: loops, veiled, ifaces, maps, wideKeys, modest, calm, conditions, laid).
  DERIVED. THE GIVEN ROWS OF THIS SEAT. 3 by the template 'for every input the law returns true; each argument reads behind the call as it read before'; 0 by the template 'total and deterministic' (their statements: YtnnacdkijeoeoaaTotals.lean).
  GIVEN WITH THE SEED: the statements are not yours to turn. If you find one false, say at which input.
  Laid BY PROGRAM, IN A SANDBOX (cutbox-rows.mjs): the forced cells as the released guide's own fill.sh prints them over the translation 910ab69f56116c4c… (all of the seat's roots in one cut). By AI agents, Wed Nov 11 2026. No macro, syntax, notation, axiom, sorry.
-/
import Derived.Test.YtnnacdkijeoeoaaChecked
import GoSem.Claim
import GoSem.ClaimJoined
import GoSem.ClaimMapViews
import Derived.JoinedTies
import Derived.KernelRfl
namespace Go.Proofs.Ytnnacdkijeoeoaa
/- THE CELL 'sum', in the pinned program and in every row, IS THE sha256 OF THE DUMP (.gsa) THAT YtnnacdkijeoeoaaProg.lean LOADS. Nothing in Lean hashes anything: it is a label: what it is worth is what the hold of that sum in a sandbox is worth. -/
noncomputable def Try.pinned : Pinned := { name := "ytnnacdkijeoeoaa", sum := "910ab69f56116c4cc2a7b2b2398daf3ac9a5e32a909d6c7ee1280c92cf922e5e", checked := Try.checked }
namespace Rows
def none {H : Type} : Left H := { results := [], args := [] }

/-- 'ballastlaw15.BlockTells': WHATEVER THE INPUT: true; the input reads as it did. -/
def blockTellsSpec : ChangeSpec := { name := "blockTells", fn := fun _ => fun
  | [d1, d2, d3] => { results := [.lit (.bool true)], args := [d1, d2, d3] }
  | _ => none }
def blockTellsRow : OpenClaim := { program := "ytnnacdkijeoeoaa", sum := "910ab69f56116c4cc2a7b2b2398daf3ac9a5e32a909d6c7ee1280c92cf922e5e", func := "ballast/ballastlaw15.BlockTells", spec := "blockTells", unfollowed := true, recurses := true, apart := false }
def BlockTellsSaid : Prop := blockTellsRow.holds Try.pinned (OpenSpec.ofChange blockTellsSpec)

/-- ITS FALSE NEIGHBOUR: 'it returns false'. Refute it at one input. -/
def blockTellsWrong : ChangeSpec := { name := "blockTells", fn := fun _ => fun
  | [d1, d2, d3] => { results := [.lit (.bool false)], args := [d1, d2, d3] }
  | _ => none }
def BlockTellsWrongFalsely : Prop := blockTellsRow.holds Try.pinned (OpenSpec.ofChange blockTellsWrong)

/-- 'ballastlaw15.BlockQuiet': WHATEVER THE INPUT: true; the input reads as it did. -/
def blockQuietSpec : ChangeSpec := { name := "blockQuiet", fn := fun _ => fun
  | [d1, d2] => { results := [.lit (.bool true)], args := [d1, d2] }
  | _ => none }
def blockQuietRow : OpenClaim := { program := "ytnnacdkijeoeoaa", sum := "910ab69f56116c4cc2a7b2b2398daf3ac9a5e32a909d6c7ee1280c92cf922e5e", func := "ballast/ballastlaw15.BlockQuiet", spec := "blockQuiet", unfollowed := true, recurses := true, apart := false }
def BlockQuietSaid : Prop := blockQuietRow.holds Try.pinned (OpenSpec.ofChange blockQuietSpec)

/-- ITS FALSE NEIGHBOUR: 'it returns false'. Refute it at one input. -/
def blockQuietWrong : ChangeSpec := { name := "blockQuiet", fn := fun _ => fun
  | [d1, d2] => { results := [.lit (.bool false)], args := [d1, d2] }
  | _ => none }
def BlockQuietWrongFalsely : Prop := blockQuietRow.holds Try.pinned (OpenSpec.ofChange blockQuietWrong)

/-- 'ballastlaw15.BlockGrants': WHATEVER THE INPUT: true; the input reads as it did. -/
def blockGrantsSpec : ChangeSpec := { name := "blockGrants", fn := fun _ => fun
  | [d1, d2] => { results := [.lit (.bool true)], args := [d1, d2] }
  | _ => none }
def blockGrantsRow : OpenClaim := { program := "ytnnacdkijeoeoaa", sum := "910ab69f56116c4cc2a7b2b2398daf3ac9a5e32a909d6c7ee1280c92cf922e5e", func := "ballast/ballastlaw15.BlockGrants", spec := "blockGrants", unfollowed := true, recurses := true, apart := false }
def BlockGrantsSaid : Prop := blockGrantsRow.holds Try.pinned (OpenSpec.ofChange blockGrantsSpec)

/-- ITS FALSE NEIGHBOUR: 'it returns false'. Refute it at one input. -/
def blockGrantsWrong : ChangeSpec := { name := "blockGrants", fn := fun _ => fun
  | [d1, d2] => { results := [.lit (.bool false)], args := [d1, d2] }
  | _ => none }
def BlockGrantsWrongFalsely : Prop := blockGrantsRow.holds Try.pinned (OpenSpec.ofChange blockGrantsWrong)

/- THE SECOND FORM. 'bulk': how many values and letters a reading holds, each counted each time it is reached (what is shared counts as often as it is met; a slice's spare places count too). A statement '..UptoSaid' is the law's where the arguments, and the package variables that the reading takes, are together of bulk at most 1048576: NARROWER than '..Said'. Prove '..Said' where nothing that the law and all that it calls make is longer than what came in: it says more and counts as full. Else prove '..UptoSaid'. A law counts once. -/
mutual
def uptoBulk {H : Type} : DataW H → Nat
  | .lit (.string bytes) => bytes.length + 1
  | .lit _ => 1
  | .nil => 1
  | .ptr d => uptoBulk d + 1
  | .slice elems spare => uptoBulkAll elems + uptoBulkAll spare + 1
  | .agg parts => uptoBulkAll parts + 1
  | .iface _ d => uptoBulk d + 1
  | .map entries => uptoBulkEntries entries + 1
  | .held _ => 1
def uptoBulkAll {H : Type} : List (DataW H) → Nat
  | [] => 0
  | d :: r => uptoBulk d + uptoBulkAll r
def uptoBulkEntries {H : Type} : List (Lit × DataW H) → Nat
  | [] => 0
  | x :: r => uptoBulkEntry x + uptoBulkEntries r
def uptoBulkEntry {H : Type} : Lit × DataW H → Nat
  | (.string bytes, d) => bytes.length + uptoBulk d + 1
  | (_, d) => uptoBulk d + 1
 end
def uptoSmall : (H : Type) → List (DataW H) → Bool := fun _ ds => decide (uptoBulkAll ds ≤ 1048576)
def OpenSpec.upto (s : _root_.Go.ChangeSpec) : _root_.Go.OpenSpec := { _root_.Go.OpenSpec.ofChange s with cond := some uptoSmall }

/-- 'ballastlaw15.BlockTells', WHERE WHAT IT READS IS OF BULK AT MOST 1048576: true; the input reads as it did. -/
def blockTellsUptoRow : OpenClaim := { program := "ytnnacdkijeoeoaa", sum := "910ab69f56116c4cc2a7b2b2398daf3ac9a5e32a909d6c7ee1280c92cf922e5e", func := "ballast/ballastlaw15.BlockTells", spec := "blockTells", unfollowed := true, recurses := true, apart := false, narrowed := true }
def BlockTellsUptoSaid : Prop := blockTellsUptoRow.holds Try.pinned (OpenSpec.upto blockTellsSpec)

/-- 'ballastlaw15.BlockQuiet', WHERE WHAT IT READS IS OF BULK AT MOST 1048576: true; the input reads as it did. -/
def blockQuietUptoRow : OpenClaim := { program := "ytnnacdkijeoeoaa", sum := "910ab69f56116c4cc2a7b2b2398daf3ac9a5e32a909d6c7ee1280c92cf922e5e", func := "ballast/ballastlaw15.BlockQuiet", spec := "blockQuiet", unfollowed := true, recurses := true, apart := false, narrowed := true }
def BlockQuietUptoSaid : Prop := blockQuietUptoRow.holds Try.pinned (OpenSpec.upto blockQuietSpec)

/-- 'ballastlaw15.BlockGrants', WHERE WHAT IT READS IS OF BULK AT MOST 1048576: true; the input reads as it did. -/
def blockGrantsUptoRow : OpenClaim := { program := "ytnnacdkijeoeoaa", sum := "910ab69f56116c4cc2a7b2b2398daf3ac9a5e32a909d6c7ee1280c92cf922e5e", func := "ballast/ballastlaw15.BlockGrants", spec := "blockGrants", unfollowed := true, recurses := true, apart := false, narrowed := true }
def BlockGrantsUptoSaid : Prop := blockGrantsUptoRow.holds Try.pinned (OpenSpec.upto blockGrantsSpec)

end Rows
end Go.Proofs.Ytnnacdkijeoeoaa
