/-
  DERIVED. GIVEN WITH THE SEED: THE CARDS: each row of YtkkohdmneognlaaGreatDoorRows.lean that lists a variable, with what it lists TIED to the program's text (the seventh form; the later family's looks); each row that meets fmt, with fmt's text TOLD by the authors' own Lean function (tested against real Go, not proved from fmt's source: count such statements apart). THE CARD IS WHAT COUNTS. Prove the row's statement (the work); the ties are given (YtkkohdmneognlaaGreatDoorTie.lean); close each card by the builder's one call (the guide's Derived/Test/ToyasCard.lean, 'card_holds'). Laid BY PROGRAM, IN A SANDBOX (cutbox-door.mjs). By AI agents, Wed Nov 11 2026. No macro, syntax, notation, axiom, sorry.
-/
import Derived.Test.YtkkohdmneognlaaGreatDoorRows
import GoSem.ClaimSeven
namespace Go.Proofs.YtkkohdmneognlaaGreatDoor
namespace Rows

/-- THE TIED CARD OF 'ballastlaw06.ConfChecks'. -/
def confChecksCard : Claim7 := { stood := { row := confChecksRow, standIns := [], harness := (true, "bcf456f2d259f33396131013212896381eede8defc0143199549d5781c647066"), looks := true }, kinds := [], alts := [], laidByText := true, laidKinds := [.data, .data, .data, .data, .sentinel, .sentinel, .listed, .data, .pinned], laidTests := true, laidLooks := .later }
def ConfChecksCardSaid : Prop := Claim7.holds Tryz.pinned (.plain (OpenSpec.ofChange confChecksSpec)) confChecksCard

/-- THE TIED CARD OF 'ballastlaw06.ConfParts'. -/
def confPartsCard : Claim7 := { stood := { row := confPartsRow, standIns := [], harness := (true, "bcf456f2d259f33396131013212896381eede8defc0143199549d5781c647066"), looks := true }, kinds := [], alts := [], laidByText := true, laidKinds := [.data, .data, .data, .data, .sentinel, .sentinel, .listed, .data, .pinned], laidTests := true, laidLooks := .later }
def ConfPartsCardSaid : Prop := Claim7.holds Tryz.pinned (.plain (OpenSpec.ofChange confPartsSpec)) confPartsCard

/-- THE TIED CARD OF 'ballastlaw06.ConfTexts'. -/
def confTextsCard : Claim7 := { stood := { row := confTextsRow, standIns := [], harness := (true, "bcf456f2d259f33396131013212896381eede8defc0143199549d5781c647066"), looks := true }, kinds := [], alts := [], laidByText := true, laidKinds := [.data, .data, .data, .data, .sentinel, .sentinel, .listed, .data, .pinned], laidTests := true, laidLooks := .later }
def ConfTextsCardSaid : Prop := Claim7.holds Tryz.pinned (.plain (OpenSpec.ofChange confTextsSpec)) confTextsCard

/-- THE TIED CARD OF 'ballastlaw06.ConfWays'. -/
def confWaysCard : Claim7 := { stood := { row := confWaysRow, standIns := [], harness := (true, "bcf456f2d259f33396131013212896381eede8defc0143199549d5781c647066"), looks := true }, kinds := [], alts := [], laidByText := true, laidKinds := [.data, .data, .data, .data, .sentinel, .sentinel, .listed, .data, .pinned], laidTests := true, laidLooks := .later }
def ConfWaysCardSaid : Prop := Claim7.holds Tryz.pinned (.plain (OpenSpec.ofChange confWaysSpec)) confWaysCard

/-- THE TIED CARD OF 'ballastlaw06.ConfSpoilt'. -/
def confSpoiltCard : Claim7 := { stood := { row := confSpoiltRow, standIns := [], harness := (true, "bcf456f2d259f33396131013212896381eede8defc0143199549d5781c647066"), looks := true }, kinds := [], alts := [], laidByText := true, laidKinds := [.data, .data, .data, .data, .sentinel, .sentinel, .listed, .data, .pinned], laidTests := true, laidLooks := .later }
def ConfSpoiltCardSaid : Prop := Claim7.holds Tryz.pinned (.plain (OpenSpec.ofChange confSpoiltSpec)) confSpoiltCard

/-- THE TIED CARD OF 'ballastlaw06.ConfJoints'. -/
def confJointsCard : Claim7 := { stood := { row := confJointsRow, standIns := [], harness := (true, "bcf456f2d259f33396131013212896381eede8defc0143199549d5781c647066"), looks := true }, kinds := [], alts := [], laidByText := true, laidKinds := [.data, .data, .data, .data, .sentinel, .sentinel, .listed, .data, .pinned], laidTests := true, laidLooks := .later }
def ConfJointsCardSaid : Prop := Claim7.holds Tryz.pinned (.plain (OpenSpec.ofChange confJointsSpec)) confJointsCard

/-- THE TIED CARD OF 'ballastlaw06.ConfShunts'. -/
def confShuntsCard : Claim7 := { stood := { row := confShuntsRow, standIns := [], harness := (true, "bcf456f2d259f33396131013212896381eede8defc0143199549d5781c647066"), looks := true }, kinds := [], alts := [], laidByText := true, laidKinds := [.data, .data, .data, .data, .sentinel, .sentinel, .listed, .data, .pinned], laidTests := true, laidLooks := .later }
def ConfShuntsCardSaid : Prop := Claim7.holds Tryz.pinned (.plain (OpenSpec.ofChange confShuntsSpec)) confShuntsCard

/-- THE SECOND FORM's CARD OF 'ballastlaw06.ConfChecks'. -/
def confChecksUptoCard : Claim7 := { stood := { row := confChecksUptoRow, standIns := [], harness := (true, "bcf456f2d259f33396131013212896381eede8defc0143199549d5781c647066"), looks := true }, kinds := [], alts := [], laidByText := true, laidKinds := [.data, .data, .data, .data, .sentinel, .sentinel, .listed, .data, .pinned], laidTests := true, laidLooks := .later }
def ConfChecksUptoCardSaid : Prop := Claim7.holds Tryz.pinned (.plain (OpenSpec.upto confChecksSpec)) confChecksUptoCard

/-- THE SECOND FORM's CARD OF 'ballastlaw06.ConfParts'. -/
def confPartsUptoCard : Claim7 := { stood := { row := confPartsUptoRow, standIns := [], harness := (true, "bcf456f2d259f33396131013212896381eede8defc0143199549d5781c647066"), looks := true }, kinds := [], alts := [], laidByText := true, laidKinds := [.data, .data, .data, .data, .sentinel, .sentinel, .listed, .data, .pinned], laidTests := true, laidLooks := .later }
def ConfPartsUptoCardSaid : Prop := Claim7.holds Tryz.pinned (.plain (OpenSpec.upto confPartsSpec)) confPartsUptoCard

/-- THE SECOND FORM's CARD OF 'ballastlaw06.ConfTexts'. -/
def confTextsUptoCard : Claim7 := { stood := { row := confTextsUptoRow, standIns := [], harness := (true, "bcf456f2d259f33396131013212896381eede8defc0143199549d5781c647066"), looks := true }, kinds := [], alts := [], laidByText := true, laidKinds := [.data, .data, .data, .data, .sentinel, .sentinel, .listed, .data, .pinned], laidTests := true, laidLooks := .later }
def ConfTextsUptoCardSaid : Prop := Claim7.holds Tryz.pinned (.plain (OpenSpec.upto confTextsSpec)) confTextsUptoCard

/-- THE SECOND FORM's CARD OF 'ballastlaw06.ConfWays'. -/
def confWaysUptoCard : Claim7 := { stood := { row := confWaysUptoRow, standIns := [], harness := (true, "bcf456f2d259f33396131013212896381eede8defc0143199549d5781c647066"), looks := true }, kinds := [], alts := [], laidByText := true, laidKinds := [.data, .data, .data, .data, .sentinel, .sentinel, .listed, .data, .pinned], laidTests := true, laidLooks := .later }
def ConfWaysUptoCardSaid : Prop := Claim7.holds Tryz.pinned (.plain (OpenSpec.upto confWaysSpec)) confWaysUptoCard

/-- THE SECOND FORM's CARD OF 'ballastlaw06.ConfSpoilt'. -/
def confSpoiltUptoCard : Claim7 := { stood := { row := confSpoiltUptoRow, standIns := [], harness := (true, "bcf456f2d259f33396131013212896381eede8defc0143199549d5781c647066"), looks := true }, kinds := [], alts := [], laidByText := true, laidKinds := [.data, .data, .data, .data, .sentinel, .sentinel, .listed, .data, .pinned], laidTests := true, laidLooks := .later }
def ConfSpoiltUptoCardSaid : Prop := Claim7.holds Tryz.pinned (.plain (OpenSpec.upto confSpoiltSpec)) confSpoiltUptoCard

/-- THE SECOND FORM's CARD OF 'ballastlaw06.ConfJoints'. -/
def confJointsUptoCard : Claim7 := { stood := { row := confJointsUptoRow, standIns := [], harness := (true, "bcf456f2d259f33396131013212896381eede8defc0143199549d5781c647066"), looks := true }, kinds := [], alts := [], laidByText := true, laidKinds := [.data, .data, .data, .data, .sentinel, .sentinel, .listed, .data, .pinned], laidTests := true, laidLooks := .later }
def ConfJointsUptoCardSaid : Prop := Claim7.holds Tryz.pinned (.plain (OpenSpec.upto confJointsSpec)) confJointsUptoCard

/-- THE SECOND FORM's CARD OF 'ballastlaw06.ConfShunts'. -/
def confShuntsUptoCard : Claim7 := { stood := { row := confShuntsUptoRow, standIns := [], harness := (true, "bcf456f2d259f33396131013212896381eede8defc0143199549d5781c647066"), looks := true }, kinds := [], alts := [], laidByText := true, laidKinds := [.data, .data, .data, .data, .sentinel, .sentinel, .listed, .data, .pinned], laidTests := true, laidLooks := .later }
def ConfShuntsUptoCardSaid : Prop := Claim7.holds Tryz.pinned (.plain (OpenSpec.upto confShuntsSpec)) confShuntsUptoCard
end Rows
end Go.Proofs.YtkkohdmneognlaaGreatDoor
