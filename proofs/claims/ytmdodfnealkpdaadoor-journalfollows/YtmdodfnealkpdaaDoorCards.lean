/-
  DERIVED. GIVEN WITH THE SEED: THE CARDS: each row of YtmdodfnealkpdaaDoorRows.lean that lists a variable, with what it lists TIED to the program's text (the seventh form; the later family's looks); each row that meets fmt, with fmt's text TOLD by the authors' own Lean function (tested against real Go, not proved from fmt's source: count such statements apart). THE CARD IS WHAT COUNTS. Prove the row's statement (the work); the ties are given (YtmdodfnealkpdaaDoorTie.lean); close each card by the builder's one call (the guide's Derived/Test/ToyasCard.lean, 'card_holds'). Laid BY PROGRAM, IN A SANDBOX (cutbox-door.mjs). By AI agents, Wed Nov 11 2026. No macro, syntax, notation, axiom, sorry.
-/
import Derived.Test.YtmdodfnealkpdaaDoorRows
import GoSem.ClaimSeven
namespace Go.Proofs.YtmdodfnealkpdaaDoor
namespace Rows

/-- THE TIED CARD OF 'cairnlaw19.JournalFollows'. -/
def journalFollowsCard : Claim7 := { stood := { row := journalFollowsRow, standIns := [], harness := (true, "7ed887b31d1ac9c02ced7b7c70f3ad816e2f2d2f1f0797dd89d56469763b3861"), looks := false }, kinds := [], alts := [], laidByText := true, laidKinds := [.data], laidTests := true, laidLooks := .later }
def JournalFollowsCardSaid : Prop := Claim7.holds Tryd.pinned (.plain (OpenSpec.ofChange journalFollowsSpec)) journalFollowsCard

/-- THE SECOND FORM's CARD OF 'cairnlaw19.JournalFollows'. -/
def journalFollowsUptoCard : Claim7 := { stood := { row := journalFollowsUptoRow, standIns := [], harness := (true, "7ed887b31d1ac9c02ced7b7c70f3ad816e2f2d2f1f0797dd89d56469763b3861"), looks := false }, kinds := [], alts := [], laidByText := true, laidKinds := [.data], laidTests := true, laidLooks := .later }
def JournalFollowsUptoCardSaid : Prop := Claim7.holds Tryd.pinned (.plain (OpenSpec.upto journalFollowsSpec)) journalFollowsUptoCard
end Rows
end Go.Proofs.YtmdodfnealkpdaaDoor
