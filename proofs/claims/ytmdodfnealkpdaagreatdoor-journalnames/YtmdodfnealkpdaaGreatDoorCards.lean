/-
  DERIVED. GIVEN WITH THE SEED: THE CARDS: each row of YtmdodfnealkpdaaGreatDoorRows.lean that lists a variable, with what it lists TIED to the program's text (the seventh form; the later family's looks); each row that meets fmt, with fmt's text TOLD by the authors' own Lean function (tested against real Go, not proved from fmt's source: count such statements apart). THE CARD IS WHAT COUNTS. Prove the row's statement (the work); the ties are given (YtmdodfnealkpdaaGreatDoorTie.lean); close each card by the builder's one call (the guide's Derived/Test/ToyasCard.lean, 'card_holds'). Laid BY PROGRAM, IN A SANDBOX (cutbox-door.mjs). By AI agents, Wed Nov 11 2026. No macro, syntax, notation, axiom, sorry.
-/
import Derived.Test.YtmdodfnealkpdaaGreatDoorRows
import GoSem.ClaimSeven
namespace Go.Proofs.YtmdodfnealkpdaaGreatDoor
namespace Rows

/-- THE TIED CARD OF 'cairnlaw19.JournalNames'. -/
def journalNamesCard : Claim7 := { stood := { row := journalNamesRow, standIns := [], harness := (true, "0e8311609b1d0a3233fb559e7c69f2a0ef28e1a862ef1c8fe8ca279689f0361a"), looks := true }, kinds := [], alts := [], laidByText := true, laidKinds := [.data, .data, .data], laidTests := true, laidLooks := .later }
def JournalNamesCardSaid : Prop := Claim7.holds Tryz.pinned (.plain (OpenSpec.ofChange journalNamesSpec)) journalNamesCard

/-- THE SECOND FORM's CARD OF 'cairnlaw19.JournalNames'. -/
def journalNamesUptoCard : Claim7 := { stood := { row := journalNamesUptoRow, standIns := [], harness := (true, "0e8311609b1d0a3233fb559e7c69f2a0ef28e1a862ef1c8fe8ca279689f0361a"), looks := true }, kinds := [], alts := [], laidByText := true, laidKinds := [.data, .data, .data], laidTests := true, laidLooks := .later }
def JournalNamesUptoCardSaid : Prop := Claim7.holds Tryz.pinned (.plain (OpenSpec.upto journalNamesSpec)) journalNamesUptoCard
end Rows
end Go.Proofs.YtmdodfnealkpdaaGreatDoor
