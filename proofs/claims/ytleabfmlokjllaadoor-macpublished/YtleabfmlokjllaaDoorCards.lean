/-
  DERIVED. GIVEN WITH THE SEED: THE CARDS: each row of YtleabfmlokjllaaDoorRows.lean that lists a variable, with what it lists TIED to the program's text (the seventh form; the later family's looks); each row that meets fmt, with fmt's text TOLD by the authors' own Lean function (tested against real Go, not proved from fmt's source: count such statements apart). THE CARD IS WHAT COUNTS. Prove the row's statement (the work); the ties are given (YtleabfmlokjllaaDoorTie.lean); close each card by the builder's one call (the guide's Derived/Test/ToyasCard.lean, 'card_holds'). Laid BY PROGRAM, IN A SANDBOX (cutbox-door.mjs). By AI agents, Wed Nov 11 2026. No macro, syntax, notation, axiom, sorry.
-/
import Derived.Test.YtleabfmlokjllaaDoorRows
import GoSem.ClaimSeven
namespace Go.Proofs.YtleabfmlokjllaaDoor
namespace Rows

/-- THE TIED CARD OF 'cairnlaw03.MacPublished'. -/
def macPublishedCard : Claim7 := { stood := { row := macPublishedRow, standIns := [], harness := (true, "b7806838829da2bd2f38dd99f2f20f47e5b6f70791f138844478d5ea60f4e562"), looks := false }, kinds := [], alts := [], laidByText := true, laidKinds := [.data, .data], laidTests := true, laidLooks := .later }
def MacPublishedCardSaid : Prop := Claim7.holds Tryd.pinned (.plain (OpenSpec.ofChange macPublishedSpec)) macPublishedCard

/-- THE TIED CARD OF 'cairnlaw03.MacPieces'. -/
def macPiecesCard : Claim7 := { stood := { row := macPiecesRow, standIns := [], harness := (true, "b7806838829da2bd2f38dd99f2f20f47e5b6f70791f138844478d5ea60f4e562"), looks := false }, kinds := [], alts := [], laidByText := true, laidKinds := [.data, .data], laidTests := true, laidLooks := .later }
def MacPiecesCardSaid : Prop := Claim7.holds Tryd.pinned (.plain (OpenSpec.ofChange macPiecesSpec)) macPiecesCard

/-- THE TIED CARD OF 'cairnlaw03.MacKnown'. -/
def macKnownCard : Claim7 := { stood := { row := macKnownRow, standIns := [], harness := (true, "b7806838829da2bd2f38dd99f2f20f47e5b6f70791f138844478d5ea60f4e562"), looks := false }, kinds := [], alts := [], laidByText := true, laidKinds := [.data, .data], laidTests := true, laidLooks := .later }
def MacKnownCardSaid : Prop := Claim7.holds Tryd.pinned (.plain (OpenSpec.ofChange macKnownSpec)) macKnownCard

/-- THE TIED CARD OF 'cairnlaw03.MacExact'. -/
def macExactCard : Claim7 := { stood := { row := macExactRow, standIns := [], harness := (true, "b7806838829da2bd2f38dd99f2f20f47e5b6f70791f138844478d5ea60f4e562"), looks := false }, kinds := [], alts := [], laidByText := true, laidKinds := [.data, .data, .data], laidTests := true, laidLooks := .later }
def MacExactCardSaid : Prop := Claim7.holds Tryd.pinned (.plain (OpenSpec.ofChange macExactSpec)) macExactCard

/-- THE SECOND FORM's CARD OF 'cairnlaw03.MacPublished'. -/
def macPublishedUptoCard : Claim7 := { stood := { row := macPublishedUptoRow, standIns := [], harness := (true, "b7806838829da2bd2f38dd99f2f20f47e5b6f70791f138844478d5ea60f4e562"), looks := false }, kinds := [], alts := [], laidByText := true, laidKinds := [.data, .data], laidTests := true, laidLooks := .later }
def MacPublishedUptoCardSaid : Prop := Claim7.holds Tryd.pinned (.plain (OpenSpec.upto macPublishedSpec)) macPublishedUptoCard

/-- THE SECOND FORM's CARD OF 'cairnlaw03.MacPieces'. -/
def macPiecesUptoCard : Claim7 := { stood := { row := macPiecesUptoRow, standIns := [], harness := (true, "b7806838829da2bd2f38dd99f2f20f47e5b6f70791f138844478d5ea60f4e562"), looks := false }, kinds := [], alts := [], laidByText := true, laidKinds := [.data, .data], laidTests := true, laidLooks := .later }
def MacPiecesUptoCardSaid : Prop := Claim7.holds Tryd.pinned (.plain (OpenSpec.upto macPiecesSpec)) macPiecesUptoCard

/-- THE SECOND FORM's CARD OF 'cairnlaw03.MacKnown'. -/
def macKnownUptoCard : Claim7 := { stood := { row := macKnownUptoRow, standIns := [], harness := (true, "b7806838829da2bd2f38dd99f2f20f47e5b6f70791f138844478d5ea60f4e562"), looks := false }, kinds := [], alts := [], laidByText := true, laidKinds := [.data, .data], laidTests := true, laidLooks := .later }
def MacKnownUptoCardSaid : Prop := Claim7.holds Tryd.pinned (.plain (OpenSpec.upto macKnownSpec)) macKnownUptoCard

/-- THE SECOND FORM's CARD OF 'cairnlaw03.MacExact'. -/
def macExactUptoCard : Claim7 := { stood := { row := macExactUptoRow, standIns := [], harness := (true, "b7806838829da2bd2f38dd99f2f20f47e5b6f70791f138844478d5ea60f4e562"), looks := false }, kinds := [], alts := [], laidByText := true, laidKinds := [.data, .data, .data], laidTests := true, laidLooks := .later }
def MacExactUptoCardSaid : Prop := Claim7.holds Tryd.pinned (.plain (OpenSpec.upto macExactSpec)) macExactUptoCard
end Rows
end Go.Proofs.YtleabfmlokjllaaDoor
