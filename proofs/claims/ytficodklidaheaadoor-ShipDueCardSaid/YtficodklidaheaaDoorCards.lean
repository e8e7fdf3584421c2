/-
  DERIVED. GIVEN WITH THE SEED: THE CARDS: each row of YtficodklidaheaaDoorRows.lean that lists a variable, with what it lists TIED to the program's text (the seventh form; the later family's looks); each row that meets fmt, with fmt's text TOLD by the authors' own Lean function (tested against real Go, not proved from fmt's source: count such statements apart). THE CARD IS WHAT COUNTS. Prove the row's statement (the work); the ties are given (YtficodklidaheaaDoorTie.lean); close each card by the builder's one call (the guide's Derived/Test/ToyasCard.lean, 'card_holds'). Laid BY PROGRAM, IN A SANDBOX (cutbox-door.mjs). By AI agents, Wed Nov 11 2026. No macro, syntax, notation, axiom, sorry.
-/
import Derived.Test.YtficodklidaheaaDoorRows
import GoSem.ClaimSeven
namespace Go.Proofs.YtficodklidaheaaDoor
namespace Rows

/-- THE TIED CARD OF 'limnographlaw04.FrameReads'. -/
def frameReadsCard : Claim7 := { stood := { row := frameReadsRow, standIns := [], harness := (true, "10899d7bb859dc3150994b5d274ea6e7e757989c4b356aa18b9cd5b53b65b0e2"), looks := false }, kinds := [], alts := [], laidByText := true, laidKinds := [.data], laidTests := true, laidLooks := .later }
def FrameReadsCardSaid : Prop := Claim7.holds Tryd.pinned (.plain (OpenSpec.ofChange frameReadsSpec)) frameReadsCard

/-- THE TIED CARD OF 'limnographlaw04.FrameBack'. -/
def frameBackCard : Claim7 := { stood := { row := frameBackRow, standIns := [], harness := (true, "10899d7bb859dc3150994b5d274ea6e7e757989c4b356aa18b9cd5b53b65b0e2"), looks := false }, kinds := [], alts := [], laidByText := true, laidKinds := [.data], laidTests := true, laidLooks := .later }
def FrameBackCardSaid : Prop := Claim7.holds Tryd.pinned (.plain (OpenSpec.ofChange frameBackSpec)) frameBackCard

/-- THE TIED CARD OF 'limnographlaw19.WalRecords'. -/
def walRecordsCard : Claim7 := { stood := { row := walRecordsRow, standIns := [], harness := (true, "10899d7bb859dc3150994b5d274ea6e7e757989c4b356aa18b9cd5b53b65b0e2"), looks := false }, kinds := [], alts := [], laidByText := true, laidKinds := [.data], laidTests := true, laidLooks := .later }
def WalRecordsCardSaid : Prop := Claim7.holds Tryd.pinned (.plain (OpenSpec.ofChange walRecordsSpec)) walRecordsCard

/-- THE TIED CARD OF 'limnographlaw19.WalOpens'. -/
def walOpensCard : Claim7 := { stood := { row := walOpensRow, standIns := [], harness := (true, "10899d7bb859dc3150994b5d274ea6e7e757989c4b356aa18b9cd5b53b65b0e2"), looks := false }, kinds := [], alts := [], laidByText := true, laidKinds := [.data], laidTests := true, laidLooks := .later }
def WalOpensCardSaid : Prop := Claim7.holds Tryd.pinned (.plain (OpenSpec.ofChange walOpensSpec)) walOpensCard

/-- THE TIED CARD OF 'limnographlaw19.WalKeeps'. -/
def walKeepsCard : Claim7 := { stood := { row := walKeepsRow, standIns := [], harness := (true, "10899d7bb859dc3150994b5d274ea6e7e757989c4b356aa18b9cd5b53b65b0e2"), looks := false }, kinds := [], alts := [], laidByText := true, laidKinds := [.data], laidTests := true, laidLooks := .later }
def WalKeepsCardSaid : Prop := Claim7.holds Tryd.pinned (.plain (OpenSpec.ofChange walKeepsSpec)) walKeepsCard

/-- THE TIED CARD OF 'limnographlaw20.SnapPlays'. -/
def snapPlaysCard : Claim7 := { stood := { row := snapPlaysRow, standIns := [], harness := (true, "10899d7bb859dc3150994b5d274ea6e7e757989c4b356aa18b9cd5b53b65b0e2"), looks := false }, kinds := [], alts := [], laidByText := true, laidKinds := [.data], laidTests := true, laidLooks := .later }
def SnapPlaysCardSaid : Prop := Claim7.holds Tryd.pinned (.plain (OpenSpec.ofChange snapPlaysSpec)) snapPlaysCard

/-- THE TIED CARD OF 'limnographlaw20.SnapWhole'. -/
def snapWholeCard : Claim7 := { stood := { row := snapWholeRow, standIns := [], harness := (true, "10899d7bb859dc3150994b5d274ea6e7e757989c4b356aa18b9cd5b53b65b0e2"), looks := false }, kinds := [], alts := [], laidByText := true, laidKinds := [.data], laidTests := true, laidLooks := .later }
def SnapWholeCardSaid : Prop := Claim7.holds Tryd.pinned (.plain (OpenSpec.ofChange snapWholeSpec)) snapWholeCard

/-- THE TIED CARD OF 'limnographlaw25.ShipOpens'. -/
def shipOpensCard : Claim7 := { stood := { row := shipOpensRow, standIns := [], harness := (true, "10899d7bb859dc3150994b5d274ea6e7e757989c4b356aa18b9cd5b53b65b0e2"), looks := false }, kinds := [], alts := [], laidByText := true, laidKinds := [.data], laidTests := true, laidLooks := .later }
def ShipOpensCardSaid : Prop := Claim7.holds Tryd.pinned (.plain (OpenSpec.ofChange shipOpensSpec)) shipOpensCard

/-- THE TIED CARD OF 'limnographlaw25.ShipDue'. -/
def shipDueCard : Claim7 := { stood := { row := shipDueRow, standIns := [], harness := (true, "10899d7bb859dc3150994b5d274ea6e7e757989c4b356aa18b9cd5b53b65b0e2"), looks := false }, kinds := [], alts := [], laidByText := true, laidKinds := [.data], laidTests := true, laidLooks := .later }
def ShipDueCardSaid : Prop := Claim7.holds Tryd.pinned (.plain (OpenSpec.ofChange shipDueSpec)) shipDueCard

/-- THE SECOND FORM's CARD OF 'limnographlaw04.FrameReads'. -/
def frameReadsUptoCard : Claim7 := { stood := { row := frameReadsUptoRow, standIns := [], harness := (true, "10899d7bb859dc3150994b5d274ea6e7e757989c4b356aa18b9cd5b53b65b0e2"), looks := false }, kinds := [], alts := [], laidByText := true, laidKinds := [.data], laidTests := true, laidLooks := .later }
def FrameReadsUptoCardSaid : Prop := Claim7.holds Tryd.pinned (.plain (OpenSpec.upto frameReadsSpec)) frameReadsUptoCard

/-- THE SECOND FORM's CARD OF 'limnographlaw04.FrameBack'. -/
def frameBackUptoCard : Claim7 := { stood := { row := frameBackUptoRow, standIns := [], harness := (true, "10899d7bb859dc3150994b5d274ea6e7e757989c4b356aa18b9cd5b53b65b0e2"), looks := false }, kinds := [], alts := [], laidByText := true, laidKinds := [.data], laidTests := true, laidLooks := .later }
def FrameBackUptoCardSaid : Prop := Claim7.holds Tryd.pinned (.plain (OpenSpec.upto frameBackSpec)) frameBackUptoCard

/-- THE SECOND FORM's CARD OF 'limnographlaw19.WalRecords'. -/
def walRecordsUptoCard : Claim7 := { stood := { row := walRecordsUptoRow, standIns := [], harness := (true, "10899d7bb859dc3150994b5d274ea6e7e757989c4b356aa18b9cd5b53b65b0e2"), looks := false }, kinds := [], alts := [], laidByText := true, laidKinds := [.data], laidTests := true, laidLooks := .later }
def WalRecordsUptoCardSaid : Prop := Claim7.holds Tryd.pinned (.plain (OpenSpec.upto walRecordsSpec)) walRecordsUptoCard

/-- THE SECOND FORM's CARD OF 'limnographlaw19.WalOpens'. -/
def walOpensUptoCard : Claim7 := { stood := { row := walOpensUptoRow, standIns := [], harness := (true, "10899d7bb859dc3150994b5d274ea6e7e757989c4b356aa18b9cd5b53b65b0e2"), looks := false }, kinds := [], alts := [], laidByText := true, laidKinds := [.data], laidTests := true, laidLooks := .later }
def WalOpensUptoCardSaid : Prop := Claim7.holds Tryd.pinned (.plain (OpenSpec.upto walOpensSpec)) walOpensUptoCard

/-- THE SECOND FORM's CARD OF 'limnographlaw19.WalKeeps'. -/
def walKeepsUptoCard : Claim7 := { stood := { row := walKeepsUptoRow, standIns := [], harness := (true, "10899d7bb859dc3150994b5d274ea6e7e757989c4b356aa18b9cd5b53b65b0e2"), looks := false }, kinds := [], alts := [], laidByText := true, laidKinds := [.data], laidTests := true, laidLooks := .later }
def WalKeepsUptoCardSaid : Prop := Claim7.holds Tryd.pinned (.plain (OpenSpec.upto walKeepsSpec)) walKeepsUptoCard

/-- THE SECOND FORM's CARD OF 'limnographlaw20.SnapPlays'. -/
def snapPlaysUptoCard : Claim7 := { stood := { row := snapPlaysUptoRow, standIns := [], harness := (true, "10899d7bb859dc3150994b5d274ea6e7e757989c4b356aa18b9cd5b53b65b0e2"), looks := false }, kinds := [], alts := [], laidByText := true, laidKinds := [.data], laidTests := true, laidLooks := .later }
def SnapPlaysUptoCardSaid : Prop := Claim7.holds Tryd.pinned (.plain (OpenSpec.upto snapPlaysSpec)) snapPlaysUptoCard

/-- THE SECOND FORM's CARD OF 'limnographlaw20.SnapWhole'. -/
def snapWholeUptoCard : Claim7 := { stood := { row := snapWholeUptoRow, standIns := [], harness := (true, "10899d7bb859dc3150994b5d274ea6e7e757989c4b356aa18b9cd5b53b65b0e2"), looks := false }, kinds := [], alts := [], laidByText := true, laidKinds := [.data], laidTests := true, laidLooks := .later }
def SnapWholeUptoCardSaid : Prop := Claim7.holds Tryd.pinned (.plain (OpenSpec.upto snapWholeSpec)) snapWholeUptoCard

/-- THE SECOND FORM's CARD OF 'limnographlaw25.ShipOpens'. -/
def shipOpensUptoCard : Claim7 := { stood := { row := shipOpensUptoRow, standIns := [], harness := (true, "10899d7bb859dc3150994b5d274ea6e7e757989c4b356aa18b9cd5b53b65b0e2"), looks := false }, kinds := [], alts := [], laidByText := true, laidKinds := [.data], laidTests := true, laidLooks := .later }
def ShipOpensUptoCardSaid : Prop := Claim7.holds Tryd.pinned (.plain (OpenSpec.upto shipOpensSpec)) shipOpensUptoCard

/-- THE SECOND FORM's CARD OF 'limnographlaw25.ShipDue'. -/
def shipDueUptoCard : Claim7 := { stood := { row := shipDueUptoRow, standIns := [], harness := (true, "10899d7bb859dc3150994b5d274ea6e7e757989c4b356aa18b9cd5b53b65b0e2"), looks := false }, kinds := [], alts := [], laidByText := true, laidKinds := [.data], laidTests := true, laidLooks := .later }
def ShipDueUptoCardSaid : Prop := Claim7.holds Tryd.pinned (.plain (OpenSpec.upto shipDueSpec)) shipDueUptoCard
end Rows
end Go.Proofs.YtficodklidaheaaDoor
