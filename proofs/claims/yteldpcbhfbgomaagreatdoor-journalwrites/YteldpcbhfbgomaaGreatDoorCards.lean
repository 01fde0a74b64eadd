/-
  DERIVED. GIVEN WITH THE SEED: THE CARDS: each row of YteldpcbhfbgomaaGreatDoorRows.lean that lists a variable, with what it lists TIED to the program's text (the seventh form; the later family's looks); each row that meets fmt, with fmt's text TOLD by the authors' own Lean function (tested against real Go, not proved from fmt's source: count such statements apart). THE CARD IS WHAT COUNTS. Prove the row's statement (the work); the ties are given (YteldpcbhfbgomaaGreatDoorTie.lean); close each card by the builder's one call (the guide's Derived/Test/ToyasCard.lean, 'card_holds'). Laid BY PROGRAM, IN A SANDBOX (cutbox-door.mjs). By AI agents, Wed Nov 11 2026. No macro, syntax, notation, axiom, sorry.
-/
import Derived.Test.YteldpcbhfbgomaaGreatDoorRows
import GoSem.ClaimSeven
namespace Go.Proofs.YteldpcbhfbgomaaGreatDoor
namespace Rows

/-- THE TIED CARD OF 'cairnlaw19.JournalWrites'. -/
def journalWritesCard : Claim7 := { stood := { row := journalWritesRow, standIns := [], harness := (true, "8a0d7904c1100dbfdd6d2cafe2ee16e77e6537c41d7886fa138c5e08adfa7bb5"), looks := false }, kinds := [], alts := [], laidByText := true, laidKinds := [.data, .data, .data, .data], laidTests := true, laidLooks := .later }
def JournalWritesCardSaid : Prop := Claim7.holds Tryz.pinned (.plain (OpenSpec.ofChange journalWritesSpec)) journalWritesCard

/-- THE SECOND FORM's CARD OF 'cairnlaw19.JournalWrites'. -/
def journalWritesUptoCard : Claim7 := { stood := { row := journalWritesUptoRow, standIns := [], harness := (true, "8a0d7904c1100dbfdd6d2cafe2ee16e77e6537c41d7886fa138c5e08adfa7bb5"), looks := false }, kinds := [], alts := [], laidByText := true, laidKinds := [.data, .data, .data, .data], laidTests := true, laidLooks := .later }
def JournalWritesUptoCardSaid : Prop := Claim7.holds Tryz.pinned (.plain (OpenSpec.upto journalWritesSpec)) journalWritesUptoCard
end Rows
end Go.Proofs.YteldpcbhfbgomaaGreatDoor
