/-
  DERIVED. GIVEN WITH THE SEED: THE CARDS: each row of YtemcneddbhgadaaGreatDoorRows.lean that lists a variable, with what it lists TIED to the program's text (the seventh form; the later family's looks); each row that meets fmt, with fmt's text TOLD by the authors' own Lean function (tested against real Go, not proved from fmt's source: count such statements apart). THE CARD IS WHAT COUNTS. Prove the row's statement (the work); the ties are given (YtemcneddbhgadaaGreatDoorTie.lean); close each card by the builder's one call (the guide's Derived/Test/ToyasCard.lean, 'card_holds'). Laid BY PROGRAM, IN A SANDBOX (cutbox-door.mjs). By AI agents, Wed Nov 11 2026. No macro, syntax, notation, axiom, sorry.
-/
import Derived.Test.YtemcneddbhgadaaGreatDoorRows
import GoSem.ClaimSeven
namespace Go.Proofs.YtemcneddbhgadaaGreatDoor
namespace Rows

/-- THE TIED CARD OF 'cairnlaw11.FindNames'. -/
def findNamesCard : Claim7 := { stood := { row := findNamesRow, standIns := [], harness := (true, "a63612e8b69a74484289d058f50615c6bd76f292f5cfd74252e6755b9d3e2135"), looks := true }, kinds := [], alts := [], laidByText := true, laidKinds := [.data, .data, .data], laidTests := true, laidLooks := .later }
def FindNamesCardSaid : Prop := Claim7.holds Tryz.pinned (.plain (OpenSpec.ofChange findNamesSpec)) findNamesCard

/-- THE TIED CARD OF 'cairnlaw11.FindMap'. -/
def findMapCard : Claim7 := { stood := { row := findMapRow, standIns := [], harness := (true, "a63612e8b69a74484289d058f50615c6bd76f292f5cfd74252e6755b9d3e2135"), looks := true }, kinds := [], alts := [], laidByText := true, laidKinds := [.data, .data, .data], laidTests := true, laidLooks := .later }
def FindMapCardSaid : Prop := Claim7.holds Tryz.pinned (.plain (OpenSpec.ofChange findMapSpec)) findMapCard

/-- THE TIED CARD OF 'cairnlaw11.FindEnough'. -/
def findEnoughCard : Claim7 := { stood := { row := findEnoughRow, standIns := [], harness := (true, "a63612e8b69a74484289d058f50615c6bd76f292f5cfd74252e6755b9d3e2135"), looks := true }, kinds := [], alts := [], laidByText := true, laidKinds := [.data, .data, .data], laidTests := true, laidLooks := .later }
def FindEnoughCardSaid : Prop := Claim7.holds Tryz.pinned (.plain (OpenSpec.ofChange findEnoughSpec)) findEnoughCard

/-- THE TIED CARD OF 'cairnlaw11.FindGets'. -/
def findGetsCard : Claim7 := { stood := { row := findGetsRow, standIns := [], harness := (true, "a63612e8b69a74484289d058f50615c6bd76f292f5cfd74252e6755b9d3e2135"), looks := true }, kinds := [], alts := [], laidByText := true, laidKinds := [.data, .data, .data], laidTests := true, laidLooks := .later }
def FindGetsCardSaid : Prop := Claim7.holds Tryz.pinned (.plain (OpenSpec.ofChange findGetsSpec)) findGetsCard

/-- THE TIED CARD OF 'cairnlaw11.FindTrails'. -/
def findTrailsCard : Claim7 := { stood := { row := findTrailsRow, standIns := [], harness := (true, "a63612e8b69a74484289d058f50615c6bd76f292f5cfd74252e6755b9d3e2135"), looks := true }, kinds := [], alts := [], laidByText := true, laidKinds := [.data, .data, .data], laidTests := true, laidLooks := .later }
def FindTrailsCardSaid : Prop := Claim7.holds Tryz.pinned (.plain (OpenSpec.ofChange findTrailsSpec)) findTrailsCard

/-- THE SECOND FORM's CARD OF 'cairnlaw11.FindNames'. -/
def findNamesUptoCard : Claim7 := { stood := { row := findNamesUptoRow, standIns := [], harness := (true, "a63612e8b69a74484289d058f50615c6bd76f292f5cfd74252e6755b9d3e2135"), looks := true }, kinds := [], alts := [], laidByText := true, laidKinds := [.data, .data, .data], laidTests := true, laidLooks := .later }
def FindNamesUptoCardSaid : Prop := Claim7.holds Tryz.pinned (.plain (OpenSpec.upto findNamesSpec)) findNamesUptoCard

/-- THE SECOND FORM's CARD OF 'cairnlaw11.FindMap'. -/
def findMapUptoCard : Claim7 := { stood := { row := findMapUptoRow, standIns := [], harness := (true, "a63612e8b69a74484289d058f50615c6bd76f292f5cfd74252e6755b9d3e2135"), looks := true }, kinds := [], alts := [], laidByText := true, laidKinds := [.data, .data, .data], laidTests := true, laidLooks := .later }
def FindMapUptoCardSaid : Prop := Claim7.holds Tryz.pinned (.plain (OpenSpec.upto findMapSpec)) findMapUptoCard

/-- THE SECOND FORM's CARD OF 'cairnlaw11.FindEnough'. -/
def findEnoughUptoCard : Claim7 := { stood := { row := findEnoughUptoRow, standIns := [], harness := (true, "a63612e8b69a74484289d058f50615c6bd76f292f5cfd74252e6755b9d3e2135"), looks := true }, kinds := [], alts := [], laidByText := true, laidKinds := [.data, .data, .data], laidTests := true, laidLooks := .later }
def FindEnoughUptoCardSaid : Prop := Claim7.holds Tryz.pinned (.plain (OpenSpec.upto findEnoughSpec)) findEnoughUptoCard

/-- THE SECOND FORM's CARD OF 'cairnlaw11.FindGets'. -/
def findGetsUptoCard : Claim7 := { stood := { row := findGetsUptoRow, standIns := [], harness := (true, "a63612e8b69a74484289d058f50615c6bd76f292f5cfd74252e6755b9d3e2135"), looks := true }, kinds := [], alts := [], laidByText := true, laidKinds := [.data, .data, .data], laidTests := true, laidLooks := .later }
def FindGetsUptoCardSaid : Prop := Claim7.holds Tryz.pinned (.plain (OpenSpec.upto findGetsSpec)) findGetsUptoCard

/-- THE SECOND FORM's CARD OF 'cairnlaw11.FindTrails'. -/
def findTrailsUptoCard : Claim7 := { stood := { row := findTrailsUptoRow, standIns := [], harness := (true, "a63612e8b69a74484289d058f50615c6bd76f292f5cfd74252e6755b9d3e2135"), looks := true }, kinds := [], alts := [], laidByText := true, laidKinds := [.data, .data, .data], laidTests := true, laidLooks := .later }
def FindTrailsUptoCardSaid : Prop := Claim7.holds Tryz.pinned (.plain (OpenSpec.upto findTrailsSpec)) findTrailsUptoCard
end Rows
end Go.Proofs.YtemcneddbhgadaaGreatDoor
