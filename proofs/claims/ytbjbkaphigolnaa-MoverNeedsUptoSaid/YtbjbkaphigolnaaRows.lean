/-
  No cell of these rows narrows 'for every input' (looked for: loops, veiled, ifaces, maps, wideKeys, modest, calm, conditions, laid).
  DERIVED. THE GIVEN ROWS OF THIS SEAT. 4 by the template 'for every input the law returns true; each argument reads behind the call as it read before'; 0 by the template 'total and deterministic' (their statements: YtbjbkaphigolnaaTotals.lean).
  GIVEN WITH THE SEED: the statements are not yours to turn. If you find one false, say at which input.
  Laid BY PROGRAM, IN A SANDBOX (cutbox-rows.mjs): the forced cells as the released guide's own fill.sh prints them over the translation 7110591275da6d2f… (all of the seat's roots in one cut). By AI agents, Wed Nov 11 2026. No macro, syntax, notation, axiom, sorry.
-/
import Derived.Test.YtbjbkaphigolnaaChecked
import GoSem.Claim
import GoSem.ClaimJoined
import GoSem.ClaimMapViews
import Derived.JoinedTies
import Derived.KernelRfl
namespace Go.Proofs.Ytbjbkaphigolnaa
/- THE CELL 'sum', in the pinned program and in every row, IS THE sha256 OF THE DUMP (.gsa) THAT YtbjbkaphigolnaaProg.lean LOADS. Nothing in Lean hashes anything: it is a label: what it is worth is what the hold of that sum in a sandbox is worth. -/
noncomputable def Try.pinned : Pinned := { name := "ytbjbkaphigolnaa", sum := "7110591275da6d2f63cf60e76059358b38d62f9f80c899cd770747637af98eb4", checked := Try.checked }
namespace Rows
def none {H : Type} : Left H := { results := [], args := [] }

/-- 'ballastlaw12.MoverExact': WHATEVER THE INPUT: true; the input reads as it did. -/
def moverExactSpec : ChangeSpec := { name := "moverExact", fn := fun _ => fun
  | [d1, d2, d3] => { results := [.lit (.bool true)], args := [d1, d2, d3] }
  | _ => none }
def moverExactRow : OpenClaim := { program := "ytbjbkaphigolnaa", sum := "7110591275da6d2f63cf60e76059358b38d62f9f80c899cd770747637af98eb4", func := "ballast/ballastlaw12.MoverExact", spec := "moverExact", apart := false }
def MoverExactSaid : Prop := moverExactRow.holds Try.pinned (OpenSpec.ofChange moverExactSpec)

/-- ITS FALSE NEIGHBOUR: 'it returns false'. Refute it at one input. -/
def moverExactWrong : ChangeSpec := { name := "moverExact", fn := fun _ => fun
  | [d1, d2, d3] => { results := [.lit (.bool false)], args := [d1, d2, d3] }
  | _ => none }
def MoverExactWrongFalsely : Prop := moverExactRow.holds Try.pinned (OpenSpec.ofChange moverExactWrong)

/-- 'ballastlaw12.MoverNeeds': WHATEVER THE INPUT: true; the input reads as it did. -/
def moverNeedsSpec : ChangeSpec := { name := "moverNeeds", fn := fun _ => fun
  | [d1, d2] => { results := [.lit (.bool true)], args := [d1, d2] }
  | _ => none }
def moverNeedsRow : OpenClaim := { program := "ytbjbkaphigolnaa", sum := "7110591275da6d2f63cf60e76059358b38d62f9f80c899cd770747637af98eb4", func := "ballast/ballastlaw12.MoverNeeds", spec := "moverNeeds", unfollowed := true, recurses := true, apart := false }
def MoverNeedsSaid : Prop := moverNeedsRow.holds Try.pinned (OpenSpec.ofChange moverNeedsSpec)

/-- ITS FALSE NEIGHBOUR: 'it returns false'. Refute it at one input. -/
def moverNeedsWrong : ChangeSpec := { name := "moverNeeds", fn := fun _ => fun
  | [d1, d2] => { results := [.lit (.bool false)], args := [d1, d2] }
  | _ => none }
def MoverNeedsWrongFalsely : Prop := moverNeedsRow.holds Try.pinned (OpenSpec.ofChange moverNeedsWrong)

/-- 'ballastlaw12.MoverSafe': WHATEVER THE INPUT: true; the input reads as it did. -/
def moverSafeSpec : ChangeSpec := { name := "moverSafe", fn := fun _ => fun
  | [d1, d2, d3] => { results := [.lit (.bool true)], args := [d1, d2, d3] }
  | _ => none }
def moverSafeRow : OpenClaim := { program := "ytbjbkaphigolnaa", sum := "7110591275da6d2f63cf60e76059358b38d62f9f80c899cd770747637af98eb4", func := "ballast/ballastlaw12.MoverSafe", spec := "moverSafe", apart := false }
def MoverSafeSaid : Prop := moverSafeRow.holds Try.pinned (OpenSpec.ofChange moverSafeSpec)

/-- ITS FALSE NEIGHBOUR: 'it returns false'. Refute it at one input. -/
def moverSafeWrong : ChangeSpec := { name := "moverSafe", fn := fun _ => fun
  | [d1, d2, d3] => { results := [.lit (.bool false)], args := [d1, d2, d3] }
  | _ => none }
def MoverSafeWrongFalsely : Prop := moverSafeRow.holds Try.pinned (OpenSpec.ofChange moverSafeWrong)

/-- 'ballastlaw12.MoverTwice': WHATEVER THE INPUT: true; the input reads as it did. -/
def moverTwiceSpec : ChangeSpec := { name := "moverTwice", fn := fun _ => fun
  | [d1, d2, d3] => { results := [.lit (.bool true)], args := [d1, d2, d3] }
  | _ => none }
def moverTwiceRow : OpenClaim := { program := "ytbjbkaphigolnaa", sum := "7110591275da6d2f63cf60e76059358b38d62f9f80c899cd770747637af98eb4", func := "ballast/ballastlaw12.MoverTwice", spec := "moverTwice", apart := false }
def MoverTwiceSaid : Prop := moverTwiceRow.holds Try.pinned (OpenSpec.ofChange moverTwiceSpec)

/-- ITS FALSE NEIGHBOUR: 'it returns false'. Refute it at one input. -/
def moverTwiceWrong : ChangeSpec := { name := "moverTwice", fn := fun _ => fun
  | [d1, d2, d3] => { results := [.lit (.bool false)], args := [d1, d2, d3] }
  | _ => none }
def MoverTwiceWrongFalsely : Prop := moverTwiceRow.holds Try.pinned (OpenSpec.ofChange moverTwiceWrong)

/- THE SECOND FORM. 'bulk': how many values and letters a reading holds, each counted each time it is reached (what is shared counts as often as it is met; a slice's spare places count too). A statement '..UptoSaid' is the law's where the arguments, and the package variables that the reading takes, are together of bulk at most 1048576: NARROWER than '..Said'. Prove '..Said' where nothing that the law and all that it calls make is longer than what came in: it says more and counts as full. Else prove '..UptoSaid'. A law counts once. -/
mutual
def uptoBulk {H : Type} : DataW H → Nat
  | .lit (.string bytes) => bytes.length + 1
  | .lit _ => 1
  | .nil => 1
  | .ptr d => uptoBulk d + 1
  | .slice elems spare => uptoBulkAll elems + uptoBulkAll spare + 1
  | .agg parts => uptoBulkAll parts + 1
  | .iface _ d => uptoBulk d + 1
  | .map entries => uptoBulkEntries entries + 1
  | .held _ => 1
def uptoBulkAll {H : Type} : List (DataW H) → Nat
  | [] => 0
  | d :: r => uptoBulk d + uptoBulkAll r
def uptoBulkEntries {H : Type} : List (Lit × DataW H) → Nat
  | [] => 0
  | x :: r => uptoBulkEntry x + uptoBulkEntries r
def uptoBulkEntry {H : Type} : Lit × DataW H → Nat
  | (.string bytes, d) => bytes.length + uptoBulk d + 1
  | (_, d) => uptoBulk d + 1
 end
def uptoSmall : (H : Type) → List (DataW H) → Bool := fun _ ds => decide (uptoBulkAll ds ≤ 1048576)
def OpenSpec.upto (s : _root_.Go.ChangeSpec) : _root_.Go.OpenSpec := { _root_.Go.OpenSpec.ofChange s with cond := some uptoSmall }

/-- 'ballastlaw12.MoverExact', WHERE WHAT IT READS IS OF BULK AT MOST 1048576: true; the input reads as it did. -/
def moverExactUptoRow : OpenClaim := { program := "ytbjbkaphigolnaa", sum := "7110591275da6d2f63cf60e76059358b38d62f9f80c899cd770747637af98eb4", func := "ballast/ballastlaw12.MoverExact", spec := "moverExact", apart := false, narrowed := true }
def MoverExactUptoSaid : Prop := moverExactUptoRow.holds Try.pinned (OpenSpec.upto moverExactSpec)

/-- 'ballastlaw12.MoverNeeds', WHERE WHAT IT READS IS OF BULK AT MOST 1048576: true; the input reads as it did. -/
def moverNeedsUptoRow : OpenClaim := { program := "ytbjbkaphigolnaa", sum := "7110591275da6d2f63cf60e76059358b38d62f9f80c899cd770747637af98eb4", func := "ballast/ballastlaw12.MoverNeeds", spec := "moverNeeds", unfollowed := true, recurses := true, apart := false, narrowed := true }
def MoverNeedsUptoSaid : Prop := moverNeedsUptoRow.holds Try.pinned (OpenSpec.upto moverNeedsSpec)

/-- 'ballastlaw12.MoverSafe', WHERE WHAT IT READS IS OF BULK AT MOST 1048576: true; the input reads as it did. -/
def moverSafeUptoRow : OpenClaim := { program := "ytbjbkaphigolnaa", sum := "7110591275da6d2f63cf60e76059358b38d62f9f80c899cd770747637af98eb4", func := "ballast/ballastlaw12.MoverSafe", spec := "moverSafe", apart := false, narrowed := true }
def MoverSafeUptoSaid : Prop := moverSafeUptoRow.holds Try.pinned (OpenSpec.upto moverSafeSpec)

/-- 'ballastlaw12.MoverTwice', WHERE WHAT IT READS IS OF BULK AT MOST 1048576: true; the input reads as it did. -/
def moverTwiceUptoRow : OpenClaim := { program := "ytbjbkaphigolnaa", sum := "7110591275da6d2f63cf60e76059358b38d62f9f80c899cd770747637af98eb4", func := "ballast/ballastlaw12.MoverTwice", spec := "moverTwice", apart := false, narrowed := true }
def MoverTwiceUptoSaid : Prop := moverTwiceUptoRow.holds Try.pinned (OpenSpec.upto moverTwiceSpec)

end Rows
end Go.Proofs.Ytbjbkaphigolnaa
