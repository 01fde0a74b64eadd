/-
  DERIVED. GIVEN WITH THE SEED: THE CARDS: each row of YtdigimobicfabaaGreatDoorRows.lean that lists a variable, with what it lists TIED to the program's text (the seventh form; the later family's looks); each row that meets fmt, with fmt's text TOLD by the authors' own Lean function (tested against real Go, not proved from fmt's source: count such statements apart). THE CARD IS WHAT COUNTS. Prove the row's statement (the work); the ties are given (YtdigimobicfabaaGreatDoorTie.lean); close each card by the builder's one call (the guide's Derived/Test/ToyasCard.lean, 'card_holds'). Laid BY PROGRAM, IN A SANDBOX (cutbox-door.mjs). By AI agents, Wed Nov 11 2026. No macro, syntax, notation, axiom, sorry.
-/
import Derived.Test.YtdigimobicfabaaGreatDoorRows
import GoSem.ClaimSeven
namespace Go.Proofs.YtdigimobicfabaaGreatDoor
namespace Rows

/-- THE TIED CARD OF 'cairnlaw20.SealNames'. -/
def sealNamesCard : Claim7 := { stood := { row := sealNamesRow, standIns := [], harness := (true, "31aae00168cde888866522ca1c7038b033f96bc552373641f6eab1e717ebbcdf"), looks := true }, kinds := [], alts := [], laidByText := true, laidKinds := [.data, .data, .handle, .data], laidTests := true, laidLooks := .later }
def SealNamesCardSaid : Prop := Claim7.holds Tryz.pinned (.plain (OpenSpec.ofChange sealNamesSpec)) sealNamesCard

/-- THE TIED CARD OF 'cairnlaw20.SealRoom'. -/
def sealRoomCard : Claim7 := { stood := { row := sealRoomRow, standIns := [], harness := (true, "31aae00168cde888866522ca1c7038b033f96bc552373641f6eab1e717ebbcdf"), looks := true }, kinds := [], alts := [], laidByText := true, laidKinds := [.data, .data, .data, .handle, .data], laidTests := true, laidLooks := .later }
def SealRoomCardSaid : Prop := Claim7.holds Tryz.pinned (.plain (OpenSpec.ofChange sealRoomSpec)) sealRoomCard

/-- THE TIED CARD OF 'cairnlaw20.SealOne'. -/
def sealOneCard : Claim7 := { stood := { row := sealOneRow, standIns := [], harness := (true, "31aae00168cde888866522ca1c7038b033f96bc552373641f6eab1e717ebbcdf"), looks := true }, kinds := [], alts := [], laidByText := true, laidKinds := [.data, .data, .data, .handle, .data], laidTests := true, laidLooks := .later }
def SealOneCardSaid : Prop := Claim7.holds Tryz.pinned (.plain (OpenSpec.ofChange sealOneSpec)) sealOneCard

/-- THE TIED CARD OF 'cairnlaw20.SealFalls'. -/
def sealFallsCard : Claim7 := { stood := { row := sealFallsRow, standIns := [], harness := (true, "31aae00168cde888866522ca1c7038b033f96bc552373641f6eab1e717ebbcdf"), looks := true }, kinds := [], alts := [], laidByText := true, laidKinds := [.data, .data, .data, .handle, .data], laidTests := true, laidLooks := .later }
def SealFallsCardSaid : Prop := Claim7.holds Tryz.pinned (.plain (OpenSpec.ofChange sealFallsSpec)) sealFallsCard

/-- THE TIED CARD OF 'cairnlaw20.SealPlays'. -/
def sealPlaysCard : Claim7 := { stood := { row := sealPlaysRow, standIns := [], harness := (true, "31aae00168cde888866522ca1c7038b033f96bc552373641f6eab1e717ebbcdf"), looks := true }, kinds := [], alts := [], laidByText := true, laidKinds := [.data, .data, .data, .handle, .data], laidTests := true, laidLooks := .later }
def SealPlaysCardSaid : Prop := Claim7.holds Tryz.pinned (.plain (OpenSpec.ofChange sealPlaysSpec)) sealPlaysCard

/-- THE SECOND FORM's CARD OF 'cairnlaw20.SealNames'. -/
def sealNamesUptoCard : Claim7 := { stood := { row := sealNamesUptoRow, standIns := [], harness := (true, "31aae00168cde888866522ca1c7038b033f96bc552373641f6eab1e717ebbcdf"), looks := true }, kinds := [], alts := [], laidByText := true, laidKinds := [.data, .data, .handle, .data], laidTests := true, laidLooks := .later }
def SealNamesUptoCardSaid : Prop := Claim7.holds Tryz.pinned (.plain (OpenSpec.upto sealNamesSpec)) sealNamesUptoCard

/-- THE SECOND FORM's CARD OF 'cairnlaw20.SealRoom'. -/
def sealRoomUptoCard : Claim7 := { stood := { row := sealRoomUptoRow, standIns := [], harness := (true, "31aae00168cde888866522ca1c7038b033f96bc552373641f6eab1e717ebbcdf"), looks := true }, kinds := [], alts := [], laidByText := true, laidKinds := [.data, .data, .data, .handle, .data], laidTests := true, laidLooks := .later }
def SealRoomUptoCardSaid : Prop := Claim7.holds Tryz.pinned (.plain (OpenSpec.upto sealRoomSpec)) sealRoomUptoCard

/-- THE SECOND FORM's CARD OF 'cairnlaw20.SealOne'. -/
def sealOneUptoCard : Claim7 := { stood := { row := sealOneUptoRow, standIns := [], harness := (true, "31aae00168cde888866522ca1c7038b033f96bc552373641f6eab1e717ebbcdf"), looks := true }, kinds := [], alts := [], laidByText := true, laidKinds := [.data, .data, .data, .handle, .data], laidTests := true, laidLooks := .later }
def SealOneUptoCardSaid : Prop := Claim7.holds Tryz.pinned (.plain (OpenSpec.upto sealOneSpec)) sealOneUptoCard

/-- THE SECOND FORM's CARD OF 'cairnlaw20.SealFalls'. -/
def sealFallsUptoCard : Claim7 := { stood := { row := sealFallsUptoRow, standIns := [], harness := (true, "31aae00168cde888866522ca1c7038b033f96bc552373641f6eab1e717ebbcdf"), looks := true }, kinds := [], alts := [], laidByText := true, laidKinds := [.data, .data, .data, .handle, .data], laidTests := true, laidLooks := .later }
def SealFallsUptoCardSaid : Prop := Claim7.holds Tryz.pinned (.plain (OpenSpec.upto sealFallsSpec)) sealFallsUptoCard

/-- THE SECOND FORM's CARD OF 'cairnlaw20.SealPlays'. -/
def sealPlaysUptoCard : Claim7 := { stood := { row := sealPlaysUptoRow, standIns := [], harness := (true, "31aae00168cde888866522ca1c7038b033f96bc552373641f6eab1e717ebbcdf"), looks := true }, kinds := [], alts := [], laidByText := true, laidKinds := [.data, .data, .data, .handle, .data], laidTests := true, laidLooks := .later }
def SealPlaysUptoCardSaid : Prop := Claim7.holds Tryz.pinned (.plain (OpenSpec.upto sealPlaysSpec)) sealPlaysUptoCard
end Rows
end Go.Proofs.YtdigimobicfabaaGreatDoor
