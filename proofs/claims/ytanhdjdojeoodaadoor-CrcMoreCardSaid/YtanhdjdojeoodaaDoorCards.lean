/-
  DERIVED. GIVEN WITH THE SEED: THE CARDS: each row of YtanhdjdojeoodaaDoorRows.lean that lists a variable, with what it lists TIED to the program's text (the seventh form; the later family's looks); each row that meets fmt, with fmt's text TOLD by the authors' own Lean function (tested against real Go, not proved from fmt's source: count such statements apart). THE CARD IS WHAT COUNTS. Prove the row's statement (the work); the ties are given (YtanhdjdojeoodaaDoorTie.lean); close each card by the builder's one call (the guide's Derived/Test/ToyasCard.lean, 'card_holds'). Laid BY PROGRAM, IN A SANDBOX (cutbox-door.mjs). By AI agents, Wed Nov 11 2026. No macro, syntax, notation, axiom, sorry.
-/
import Derived.Test.YtanhdjdojeoodaaDoorRows
import GoSem.ClaimSeven
namespace Go.Proofs.YtanhdjdojeoodaaDoor
namespace Rows

/-- THE TIED CARD OF 'limnographlaw03.CrcIs'. -/
def crcIsCard : Claim7 := { stood := { row := crcIsRow, standIns := [], harness := (true, "b5f64df5f92fb12c3c5912525c1c800aa3dc99182e88890c7339131e9ca0ba81"), looks := false }, kinds := [], alts := [], laidByText := true, laidKinds := [.data], laidTests := true, laidLooks := .later }
def CrcIsCardSaid : Prop := Claim7.holds Tryd.pinned (.plain (OpenSpec.ofChange crcIsSpec)) crcIsCard

/-- THE TIED CARD OF 'limnographlaw03.CrcMore'. -/
def crcMoreCard : Claim7 := { stood := { row := crcMoreRow, standIns := [], harness := (true, "b5f64df5f92fb12c3c5912525c1c800aa3dc99182e88890c7339131e9ca0ba81"), looks := false }, kinds := [], alts := [], laidByText := true, laidKinds := [.data], laidTests := true, laidLooks := .later }
def CrcMoreCardSaid : Prop := Claim7.holds Tryd.pinned (.plain (OpenSpec.ofChange crcMoreSpec)) crcMoreCard

/-- THE TIED CARD OF 'limnographlaw03.CrcJoins'. -/
def crcJoinsCard : Claim7 := { stood := { row := crcJoinsRow, standIns := [], harness := (true, "b5f64df5f92fb12c3c5912525c1c800aa3dc99182e88890c7339131e9ca0ba81"), looks := false }, kinds := [], alts := [], laidByText := true, laidKinds := [.data], laidTests := true, laidLooks := .later }
def CrcJoinsCardSaid : Prop := Claim7.holds Tryd.pinned (.plain (OpenSpec.ofChange crcJoinsSpec)) crcJoinsCard

/-- THE TIED CARD OF 'limnographlaw03.CrcLong'. -/
def crcLongCard : Claim7 := { stood := { row := crcLongRow, standIns := [], harness := (true, "b5f64df5f92fb12c3c5912525c1c800aa3dc99182e88890c7339131e9ca0ba81"), looks := false }, kinds := [], alts := [], laidByText := true, laidKinds := [.data], laidTests := true, laidLooks := .later }
def CrcLongCardSaid : Prop := Claim7.holds Tryd.pinned (.plain (OpenSpec.ofChange crcLongSpec)) crcLongCard

/-- THE TIED CARD OF 'limnographlaw03.CrcTells'. -/
def crcTellsCard : Claim7 := { stood := { row := crcTellsRow, standIns := [], harness := (true, "b5f64df5f92fb12c3c5912525c1c800aa3dc99182e88890c7339131e9ca0ba81"), looks := false }, kinds := [], alts := [], laidByText := true, laidKinds := [.data], laidTests := true, laidLooks := .later }
def CrcTellsCardSaid : Prop := Claim7.holds Tryd.pinned (.plain (OpenSpec.ofChange crcTellsSpec)) crcTellsCard

/-- THE SECOND FORM's CARD OF 'limnographlaw03.CrcIs'. -/
def crcIsUptoCard : Claim7 := { stood := { row := crcIsUptoRow, standIns := [], harness := (true, "b5f64df5f92fb12c3c5912525c1c800aa3dc99182e88890c7339131e9ca0ba81"), looks := false }, kinds := [], alts := [], laidByText := true, laidKinds := [.data], laidTests := true, laidLooks := .later }
def CrcIsUptoCardSaid : Prop := Claim7.holds Tryd.pinned (.plain (OpenSpec.upto crcIsSpec)) crcIsUptoCard

/-- THE SECOND FORM's CARD OF 'limnographlaw03.CrcMore'. -/
def crcMoreUptoCard : Claim7 := { stood := { row := crcMoreUptoRow, standIns := [], harness := (true, "b5f64df5f92fb12c3c5912525c1c800aa3dc99182e88890c7339131e9ca0ba81"), looks := false }, kinds := [], alts := [], laidByText := true, laidKinds := [.data], laidTests := true, laidLooks := .later }
def CrcMoreUptoCardSaid : Prop := Claim7.holds Tryd.pinned (.plain (OpenSpec.upto crcMoreSpec)) crcMoreUptoCard

/-- THE SECOND FORM's CARD OF 'limnographlaw03.CrcJoins'. -/
def crcJoinsUptoCard : Claim7 := { stood := { row := crcJoinsUptoRow, standIns := [], harness := (true, "b5f64df5f92fb12c3c5912525c1c800aa3dc99182e88890c7339131e9ca0ba81"), looks := false }, kinds := [], alts := [], laidByText := true, laidKinds := [.data], laidTests := true, laidLooks := .later }
def CrcJoinsUptoCardSaid : Prop := Claim7.holds Tryd.pinned (.plain (OpenSpec.upto crcJoinsSpec)) crcJoinsUptoCard

/-- THE SECOND FORM's CARD OF 'limnographlaw03.CrcLong'. -/
def crcLongUptoCard : Claim7 := { stood := { row := crcLongUptoRow, standIns := [], harness := (true, "b5f64df5f92fb12c3c5912525c1c800aa3dc99182e88890c7339131e9ca0ba81"), looks := false }, kinds := [], alts := [], laidByText := true, laidKinds := [.data], laidTests := true, laidLooks := .later }
def CrcLongUptoCardSaid : Prop := Claim7.holds Tryd.pinned (.plain (OpenSpec.upto crcLongSpec)) crcLongUptoCard

/-- THE SECOND FORM's CARD OF 'limnographlaw03.CrcTells'. -/
def crcTellsUptoCard : Claim7 := { stood := { row := crcTellsUptoRow, standIns := [], harness := (true, "b5f64df5f92fb12c3c5912525c1c800aa3dc99182e88890c7339131e9ca0ba81"), looks := false }, kinds := [], alts := [], laidByText := true, laidKinds := [.data], laidTests := true, laidLooks := .later }
def CrcTellsUptoCardSaid : Prop := Claim7.holds Tryd.pinned (.plain (OpenSpec.upto crcTellsSpec)) crcTellsUptoCard
end Rows
end Go.Proofs.YtanhdjdojeoodaaDoor
