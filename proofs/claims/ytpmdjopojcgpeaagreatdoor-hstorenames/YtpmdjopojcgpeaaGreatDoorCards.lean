/-
  DERIVED. GIVEN WITH THE SEED: THE CARDS: each row of YtpmdjopojcgpeaaGreatDoorRows.lean that lists a variable, with what it lists TIED to the program's text (the seventh form; the later family's looks); each row that meets fmt, with fmt's text TOLD by the authors' own Lean function (tested against real Go, not proved from fmt's source: count such statements apart). THE CARD IS WHAT COUNTS. Prove the row's statement (the work); the ties are given (YtpmdjopojcgpeaaGreatDoorTie.lean); close each card by the builder's one call (the guide's Derived/Test/ToyasCard.lean, 'card_holds'). Laid BY PROGRAM, IN A SANDBOX (cutbox-door.mjs). By AI agents, Wed Nov 11 2026. No macro, syntax, notation, axiom, sorry.
-/
import Derived.Test.YtpmdjopojcgpeaaGreatDoorRows
import GoSem.ClaimSeven
namespace Go.Proofs.YtpmdjopojcgpeaaGreatDoor
namespace Rows

/-- THE TIED CARD OF 'cairnlaw10.HstoreNames'. -/
def hstoreNamesCard : Claim7 := { stood := { row := hstoreNamesRow, standIns := [], harness := (true, "86e2fd0f804efda87e07e38ba51607d3e2f3285ae8fa9063ca917bdaf997e916"), looks := false }, kinds := [], alts := [], laidByText := true, laidKinds := [.data, .data], laidTests := true, laidLooks := .later }
def HstoreNamesCardSaid : Prop := Claim7.holds Tryz.pinned (.plain (OpenSpec.ofChange hstoreNamesSpec)) hstoreNamesCard

/-- THE TIED CARD OF 'cairnlaw10.HstoreRight'. -/
def hstoreRightCard : Claim7 := { stood := { row := hstoreRightRow, standIns := [], harness := (true, "86e2fd0f804efda87e07e38ba51607d3e2f3285ae8fa9063ca917bdaf997e916"), looks := false }, kinds := [], alts := [], laidByText := true, laidKinds := [.data, .data, .data], laidTests := true, laidLooks := .later }
def HstoreRightCardSaid : Prop := Claim7.holds Tryz.pinned (.plain (OpenSpec.ofChange hstoreRightSpec)) hstoreRightCard

/-- THE TIED CARD OF 'cairnlaw10.HstoreHonest'. -/
def hstoreHonestCard : Claim7 := { stood := { row := hstoreHonestRow, standIns := [], harness := (true, "86e2fd0f804efda87e07e38ba51607d3e2f3285ae8fa9063ca917bdaf997e916"), looks := false }, kinds := [], alts := [], laidByText := true, laidKinds := [.data, .data, .data], laidTests := true, laidLooks := .later }
def HstoreHonestCardSaid : Prop := Claim7.holds Tryz.pinned (.plain (OpenSpec.ofChange hstoreHonestSpec)) hstoreHonestCard

/-- THE TIED CARD OF 'cairnlaw10.HstorePlays'. -/
def hstorePlaysCard : Claim7 := { stood := { row := hstorePlaysRow, standIns := [], harness := (true, "86e2fd0f804efda87e07e38ba51607d3e2f3285ae8fa9063ca917bdaf997e916"), looks := false }, kinds := [], alts := [], laidByText := true, laidKinds := [.data, .data, .data], laidTests := true, laidLooks := .later }
def HstorePlaysCardSaid : Prop := Claim7.holds Tryz.pinned (.plain (OpenSpec.ofChange hstorePlaysSpec)) hstorePlaysCard

/-- THE SECOND FORM's CARD OF 'cairnlaw10.HstoreNames'. -/
def hstoreNamesUptoCard : Claim7 := { stood := { row := hstoreNamesUptoRow, standIns := [], harness := (true, "86e2fd0f804efda87e07e38ba51607d3e2f3285ae8fa9063ca917bdaf997e916"), looks := false }, kinds := [], alts := [], laidByText := true, laidKinds := [.data, .data], laidTests := true, laidLooks := .later }
def HstoreNamesUptoCardSaid : Prop := Claim7.holds Tryz.pinned (.plain (OpenSpec.upto hstoreNamesSpec)) hstoreNamesUptoCard

/-- THE SECOND FORM's CARD OF 'cairnlaw10.HstoreRight'. -/
def hstoreRightUptoCard : Claim7 := { stood := { row := hstoreRightUptoRow, standIns := [], harness := (true, "86e2fd0f804efda87e07e38ba51607d3e2f3285ae8fa9063ca917bdaf997e916"), looks := false }, kinds := [], alts := [], laidByText := true, laidKinds := [.data, .data, .data], laidTests := true, laidLooks := .later }
def HstoreRightUptoCardSaid : Prop := Claim7.holds Tryz.pinned (.plain (OpenSpec.upto hstoreRightSpec)) hstoreRightUptoCard

/-- THE SECOND FORM's CARD OF 'cairnlaw10.HstoreHonest'. -/
def hstoreHonestUptoCard : Claim7 := { stood := { row := hstoreHonestUptoRow, standIns := [], harness := (true, "86e2fd0f804efda87e07e38ba51607d3e2f3285ae8fa9063ca917bdaf997e916"), looks := false }, kinds := [], alts := [], laidByText := true, laidKinds := [.data, .data, .data], laidTests := true, laidLooks := .later }
def HstoreHonestUptoCardSaid : Prop := Claim7.holds Tryz.pinned (.plain (OpenSpec.upto hstoreHonestSpec)) hstoreHonestUptoCard

/-- THE SECOND FORM's CARD OF 'cairnlaw10.HstorePlays'. -/
def hstorePlaysUptoCard : Claim7 := { stood := { row := hstorePlaysUptoRow, standIns := [], harness := (true, "86e2fd0f804efda87e07e38ba51607d3e2f3285ae8fa9063ca917bdaf997e916"), looks := false }, kinds := [], alts := [], laidByText := true, laidKinds := [.data, .data, .data], laidTests := true, laidLooks := .later }
def HstorePlaysUptoCardSaid : Prop := Claim7.holds Tryz.pinned (.plain (OpenSpec.upto hstorePlaysSpec)) hstorePlaysUptoCard
end Rows
end Go.Proofs.YtpmdjopojcgpeaaGreatDoor
