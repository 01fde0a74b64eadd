/-
  DERIVED. GIVEN WITH THE SEED: THE CARDS: each row of YtijbaiabbnceeaaGreatDoorRows.lean that lists a variable, with what it lists TIED to the program's text (the seventh form; the later family's looks); each row that meets fmt, with fmt's text TOLD by the authors' own Lean function (tested against real Go, not proved from fmt's source: count such statements apart). THE CARD IS WHAT COUNTS. Prove the row's statement (the work); the ties are given (YtijbaiabbnceeaaGreatDoorTie.lean); close each card by the builder's one call (the guide's Derived/Test/ToyasCard.lean, 'card_holds'). Laid BY PROGRAM, IN A SANDBOX (cutbox-door.mjs). By AI agents, Wed Nov 11 2026. No macro, syntax, notation, axiom, sorry.
-/
import Derived.Test.YtijbaiabbnceeaaGreatDoorRows
import GoSem.ClaimSeven
namespace Go.Proofs.YtijbaiabbnceeaaGreatDoor
namespace Rows

/-- THE TIED CARD OF 'cairnlaw13.CursorExact'. -/
def cursorExactCard : Claim7 := { stood := { row := cursorExactRow, standIns := [], harness := (true, "ad0f0ac476c04a49bcdf049d055567797db0305baf2957b6ba292a38c51e52cf"), looks := true }, kinds := [], alts := [], laidByText := true, laidKinds := [.data, .data, .data], laidTests := true, laidLooks := .later }
def CursorExactCardSaid : Prop := Claim7.holds Tryz.pinned (.plain (OpenSpec.ofChange cursorExactSpec)) cursorExactCard

/-- THE TIED CARD OF 'cairnlaw13.CursorNone'. -/
def cursorNoneCard : Claim7 := { stood := { row := cursorNoneRow, standIns := [], harness := (true, "ad0f0ac476c04a49bcdf049d055567797db0305baf2957b6ba292a38c51e52cf"), looks := true }, kinds := [], alts := [], laidByText := true, laidKinds := [.data, .data, .data], laidTests := true, laidLooks := .later }
def CursorNoneCardSaid : Prop := Claim7.holds Tryz.pinned (.plain (OpenSpec.ofChange cursorNoneSpec)) cursorNoneCard

/-- THE TIED CARD OF 'cairnlaw13.CursorScans'. -/
def cursorScansCard : Claim7 := { stood := { row := cursorScansRow, standIns := [], harness := (true, "ad0f0ac476c04a49bcdf049d055567797db0305baf2957b6ba292a38c51e52cf"), looks := true }, kinds := [], alts := [], laidByText := true, laidKinds := [.data, .data, .data], laidTests := true, laidLooks := .later }
def CursorScansCardSaid : Prop := Claim7.holds Tryz.pinned (.plain (OpenSpec.ofChange cursorScansSpec)) cursorScansCard

/-- THE TIED CARD OF 'cairnlaw13.CursorWays'. -/
def cursorWaysCard : Claim7 := { stood := { row := cursorWaysRow, standIns := [], harness := (true, "ad0f0ac476c04a49bcdf049d055567797db0305baf2957b6ba292a38c51e52cf"), looks := true }, kinds := [], alts := [], laidByText := true, laidKinds := [.data, .data, .data], laidTests := true, laidLooks := .later }
def CursorWaysCardSaid : Prop := Claim7.holds Tryz.pinned (.plain (OpenSpec.ofChange cursorWaysSpec)) cursorWaysCard

/-- THE TIED CARD OF 'cairnlaw13.CursorReads'. -/
def cursorReadsCard : Claim7 := { stood := { row := cursorReadsRow, standIns := [], harness := (true, "ad0f0ac476c04a49bcdf049d055567797db0305baf2957b6ba292a38c51e52cf"), looks := true }, kinds := [], alts := [], laidByText := true, laidKinds := [.data, .data, .data], laidTests := true, laidLooks := .later }
def CursorReadsCardSaid : Prop := Claim7.holds Tryz.pinned (.plain (OpenSpec.ofChange cursorReadsSpec)) cursorReadsCard

/-- THE SECOND FORM's CARD OF 'cairnlaw13.CursorExact'. -/
def cursorExactUptoCard : Claim7 := { stood := { row := cursorExactUptoRow, standIns := [], harness := (true, "ad0f0ac476c04a49bcdf049d055567797db0305baf2957b6ba292a38c51e52cf"), looks := true }, kinds := [], alts := [], laidByText := true, laidKinds := [.data, .data, .data], laidTests := true, laidLooks := .later }
def CursorExactUptoCardSaid : Prop := Claim7.holds Tryz.pinned (.plain (OpenSpec.upto cursorExactSpec)) cursorExactUptoCard

/-- THE SECOND FORM's CARD OF 'cairnlaw13.CursorNone'. -/
def cursorNoneUptoCard : Claim7 := { stood := { row := cursorNoneUptoRow, standIns := [], harness := (true, "ad0f0ac476c04a49bcdf049d055567797db0305baf2957b6ba292a38c51e52cf"), looks := true }, kinds := [], alts := [], laidByText := true, laidKinds := [.data, .data, .data], laidTests := true, laidLooks := .later }
def CursorNoneUptoCardSaid : Prop := Claim7.holds Tryz.pinned (.plain (OpenSpec.upto cursorNoneSpec)) cursorNoneUptoCard

/-- THE SECOND FORM's CARD OF 'cairnlaw13.CursorScans'. -/
def cursorScansUptoCard : Claim7 := { stood := { row := cursorScansUptoRow, standIns := [], harness := (true, "ad0f0ac476c04a49bcdf049d055567797db0305baf2957b6ba292a38c51e52cf"), looks := true }, kinds := [], alts := [], laidByText := true, laidKinds := [.data, .data, .data], laidTests := true, laidLooks := .later }
def CursorScansUptoCardSaid : Prop := Claim7.holds Tryz.pinned (.plain (OpenSpec.upto cursorScansSpec)) cursorScansUptoCard

/-- THE SECOND FORM's CARD OF 'cairnlaw13.CursorWays'. -/
def cursorWaysUptoCard : Claim7 := { stood := { row := cursorWaysUptoRow, standIns := [], harness := (true, "ad0f0ac476c04a49bcdf049d055567797db0305baf2957b6ba292a38c51e52cf"), looks := true }, kinds := [], alts := [], laidByText := true, laidKinds := [.data, .data, .data], laidTests := true, laidLooks := .later }
def CursorWaysUptoCardSaid : Prop := Claim7.holds Tryz.pinned (.plain (OpenSpec.upto cursorWaysSpec)) cursorWaysUptoCard

/-- THE SECOND FORM's CARD OF 'cairnlaw13.CursorReads'. -/
def cursorReadsUptoCard : Claim7 := { stood := { row := cursorReadsUptoRow, standIns := [], harness := (true, "ad0f0ac476c04a49bcdf049d055567797db0305baf2957b6ba292a38c51e52cf"), looks := true }, kinds := [], alts := [], laidByText := true, laidKinds := [.data, .data, .data], laidTests := true, laidLooks := .later }
def CursorReadsUptoCardSaid : Prop := Claim7.holds Tryz.pinned (.plain (OpenSpec.upto cursorReadsSpec)) cursorReadsUptoCard
end Rows
end Go.Proofs.YtijbaiabbnceeaaGreatDoor
