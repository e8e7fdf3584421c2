/-
  DERIVED. GIVEN WITH THE SEED: THE CARDS: each row of YtjpnfadmblmjbaaDoorRows.lean that lists a variable, with what it lists TIED to the program's text (the seventh form; the later family's looks); each row that meets fmt, with fmt's text TOLD by the authors' own Lean function (tested against real Go, not proved from fmt's source: count such statements apart). THE CARD IS WHAT COUNTS. Prove the row's statement (the work); the ties are given (YtjpnfadmblmjbaaDoorTie.lean); close each card by the builder's one call (the guide's Derived/Test/ToyasCard.lean, 'card_holds'). Laid BY PROGRAM, IN A SANDBOX (cutbox-door.mjs). By AI agents, Wed Nov 11 2026. No macro, syntax, notation, axiom, sorry.
-/
import Derived.Test.YtjpnfadmblmjbaaDoorRows
import GoSem.ClaimSeven
namespace Go.Proofs.YtjpnfadmblmjbaaDoor
namespace Rows

/-- THE TIED CARD OF 'limnographlaw06.VarySmall'. -/
def varySmallCard : Claim7 := { stood := { row := varySmallRow, standIns := [], harness := (true, "e9a3d71c36b4c1503b805670fa78ef7730ede1ee405080e059306c2777167219"), looks := false }, kinds := [], alts := [], laidByText := true, laidKinds := [.data, .data], laidTests := true, laidLooks := .later }
def VarySmallCardSaid : Prop := Claim7.holds Tryd.pinned (.plain (OpenSpec.ofChange varySmallSpec)) varySmallCard

/-- THE TIED CARD OF 'limnographlaw06.VaryReads'. -/
def varyReadsCard : Claim7 := { stood := { row := varyReadsRow, standIns := [], harness := (true, "e9a3d71c36b4c1503b805670fa78ef7730ede1ee405080e059306c2777167219"), looks := false }, kinds := [], alts := [], laidByText := true, laidKinds := [.data, .data], laidTests := true, laidLooks := .later }
def VaryReadsCardSaid : Prop := Claim7.holds Tryd.pinned (.plain (OpenSpec.ofChange varyReadsSpec)) varyReadsCard

/-- THE TIED CARD OF 'limnographlaw06.VaryRows'. -/
def varyRowsCard : Claim7 := { stood := { row := varyRowsRow, standIns := [], harness := (true, "e9a3d71c36b4c1503b805670fa78ef7730ede1ee405080e059306c2777167219"), looks := false }, kinds := [], alts := [], laidByText := true, laidKinds := [.data, .data], laidTests := true, laidLooks := .later }
def VaryRowsCardSaid : Prop := Claim7.holds Tryd.pinned (.plain (OpenSpec.ofChange varyRowsSpec)) varyRowsCard

/-- THE TIED CARD OF 'limnographlaw06.VaryTakes'. -/
def varyTakesCard : Claim7 := { stood := { row := varyTakesRow, standIns := [], harness := (true, "e9a3d71c36b4c1503b805670fa78ef7730ede1ee405080e059306c2777167219"), looks := false }, kinds := [], alts := [], laidByText := true, laidKinds := [.data, .data], laidTests := true, laidLooks := .later }
def VaryTakesCardSaid : Prop := Claim7.holds Tryd.pinned (.plain (OpenSpec.ofChange varyTakesSpec)) varyTakesCard

/-- THE TIED CARD OF 'limnographlaw10.HistbitsRows'. -/
def histbitsRowsCard : Claim7 := { stood := { row := histbitsRowsRow, standIns := [], harness := (true, "e9a3d71c36b4c1503b805670fa78ef7730ede1ee405080e059306c2777167219"), looks := false }, kinds := [], alts := [], laidByText := true, laidKinds := [.data], laidTests := true, laidLooks := .later }
def HistbitsRowsCardSaid : Prop := Claim7.holds Tryd.pinned (.plain (OpenSpec.ofChange histbitsRowsSpec)) histbitsRowsCard

/-- THE TIED CARD OF 'limnographlaw10.HistbitsTakes'. -/
def histbitsTakesCard : Claim7 := { stood := { row := histbitsTakesRow, standIns := [], harness := (true, "e9a3d71c36b4c1503b805670fa78ef7730ede1ee405080e059306c2777167219"), looks := false }, kinds := [], alts := [], laidByText := true, laidKinds := [.data], laidTests := true, laidLooks := .later }
def HistbitsTakesCardSaid : Prop := Claim7.holds Tryd.pinned (.plain (OpenSpec.ofChange histbitsTakesSpec)) histbitsTakesCard

/-- THE TIED CARD OF 'limnographlaw10.HistbitsSame'. -/
def histbitsSameCard : Claim7 := { stood := { row := histbitsSameRow, standIns := [], harness := (true, "e9a3d71c36b4c1503b805670fa78ef7730ede1ee405080e059306c2777167219"), looks := false }, kinds := [], alts := [], laidByText := true, laidKinds := [.data], laidTests := true, laidLooks := .later }
def HistbitsSameCardSaid : Prop := Claim7.holds Tryd.pinned (.plain (OpenSpec.ofChange histbitsSameSpec)) histbitsSameCard

/-- THE SECOND FORM's CARD OF 'limnographlaw06.VarySmall'. -/
def varySmallUptoCard : Claim7 := { stood := { row := varySmallUptoRow, standIns := [], harness := (true, "e9a3d71c36b4c1503b805670fa78ef7730ede1ee405080e059306c2777167219"), looks := false }, kinds := [], alts := [], laidByText := true, laidKinds := [.data, .data], laidTests := true, laidLooks := .later }
def VarySmallUptoCardSaid : Prop := Claim7.holds Tryd.pinned (.plain (OpenSpec.upto varySmallSpec)) varySmallUptoCard

/-- THE SECOND FORM's CARD OF 'limnographlaw06.VaryReads'. -/
def varyReadsUptoCard : Claim7 := { stood := { row := varyReadsUptoRow, standIns := [], harness := (true, "e9a3d71c36b4c1503b805670fa78ef7730ede1ee405080e059306c2777167219"), looks := false }, kinds := [], alts := [], laidByText := true, laidKinds := [.data, .data], laidTests := true, laidLooks := .later }
def VaryReadsUptoCardSaid : Prop := Claim7.holds Tryd.pinned (.plain (OpenSpec.upto varyReadsSpec)) varyReadsUptoCard

/-- THE SECOND FORM's CARD OF 'limnographlaw06.VaryRows'. -/
def varyRowsUptoCard : Claim7 := { stood := { row := varyRowsUptoRow, standIns := [], harness := (true, "e9a3d71c36b4c1503b805670fa78ef7730ede1ee405080e059306c2777167219"), looks := false }, kinds := [], alts := [], laidByText := true, laidKinds := [.data, .data], laidTests := true, laidLooks := .later }
def VaryRowsUptoCardSaid : Prop := Claim7.holds Tryd.pinned (.plain (OpenSpec.upto varyRowsSpec)) varyRowsUptoCard

/-- THE SECOND FORM's CARD OF 'limnographlaw06.VaryTakes'. -/
def varyTakesUptoCard : Claim7 := { stood := { row := varyTakesUptoRow, standIns := [], harness := (true, "e9a3d71c36b4c1503b805670fa78ef7730ede1ee405080e059306c2777167219"), looks := false }, kinds := [], alts := [], laidByText := true, laidKinds := [.data, .data], laidTests := true, laidLooks := .later }
def VaryTakesUptoCardSaid : Prop := Claim7.holds Tryd.pinned (.plain (OpenSpec.upto varyTakesSpec)) varyTakesUptoCard

/-- THE SECOND FORM's CARD OF 'limnographlaw10.HistbitsRows'. -/
def histbitsRowsUptoCard : Claim7 := { stood := { row := histbitsRowsUptoRow, standIns := [], harness := (true, "e9a3d71c36b4c1503b805670fa78ef7730ede1ee405080e059306c2777167219"), looks := false }, kinds := [], alts := [], laidByText := true, laidKinds := [.data], laidTests := true, laidLooks := .later }
def HistbitsRowsUptoCardSaid : Prop := Claim7.holds Tryd.pinned (.plain (OpenSpec.upto histbitsRowsSpec)) histbitsRowsUptoCard

/-- THE SECOND FORM's CARD OF 'limnographlaw10.HistbitsTakes'. -/
def histbitsTakesUptoCard : Claim7 := { stood := { row := histbitsTakesUptoRow, standIns := [], harness := (true, "e9a3d71c36b4c1503b805670fa78ef7730ede1ee405080e059306c2777167219"), looks := false }, kinds := [], alts := [], laidByText := true, laidKinds := [.data], laidTests := true, laidLooks := .later }
def HistbitsTakesUptoCardSaid : Prop := Claim7.holds Tryd.pinned (.plain (OpenSpec.upto histbitsTakesSpec)) histbitsTakesUptoCard

/-- THE SECOND FORM's CARD OF 'limnographlaw10.HistbitsSame'. -/
def histbitsSameUptoCard : Claim7 := { stood := { row := histbitsSameUptoRow, standIns := [], harness := (true, "e9a3d71c36b4c1503b805670fa78ef7730ede1ee405080e059306c2777167219"), looks := false }, kinds := [], alts := [], laidByText := true, laidKinds := [.data], laidTests := true, laidLooks := .later }
def HistbitsSameUptoCardSaid : Prop := Claim7.holds Tryd.pinned (.plain (OpenSpec.upto histbitsSameSpec)) histbitsSameUptoCard
end Rows
end Go.Proofs.YtjpnfadmblmjbaaDoor
