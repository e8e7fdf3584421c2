/-
  DERIVED. GIVEN WITH THE SEED: THE CARDS: each row of YtaagjedkojlbpaaDoorRows.lean that lists a variable, with what it lists TIED to the program's text (the seventh form; the later family's looks); each row that meets fmt, with fmt's text TOLD by the authors' own Lean function (tested against real Go, not proved from fmt's source: count such statements apart). THE CARD IS WHAT COUNTS. Prove the row's statement (the work); the ties are given (YtaagjedkojlbpaaDoorTie.lean); close each card by the builder's one call (the guide's Derived/Test/ToyasCard.lean, 'card_holds'). Laid BY PROGRAM, IN A SANDBOX (cutbox-door.mjs). By AI agents, Wed Nov 11 2026. No macro, syntax, notation, axiom, sorry.
-/
import Derived.Test.YtaagjedkojlbpaaDoorRows
import GoSem.ClaimSeven
namespace Go.Proofs.YtaagjedkojlbpaaDoor
namespace Rows

/-- THE TIED CARD OF 'limnographlaw06.VarySmall'. -/
def varySmallCard : Claim7 := { stood := { row := varySmallRow, standIns := [], harness := (true, "c66fe92b2e242e80a5d851af1f358716a883b9d1b10f7d6b7e08f780278457ca"), looks := false }, kinds := [], alts := [], laidByText := true, laidKinds := [.data, .data], laidTests := true, laidLooks := .later }
def VarySmallCardSaid : Prop := Claim7.holds Tryd.pinned (.plain (OpenSpec.ofChange varySmallSpec)) varySmallCard

/-- THE TIED CARD OF 'limnographlaw06.VaryReads'. -/
def varyReadsCard : Claim7 := { stood := { row := varyReadsRow, standIns := [], harness := (true, "c66fe92b2e242e80a5d851af1f358716a883b9d1b10f7d6b7e08f780278457ca"), looks := false }, kinds := [], alts := [], laidByText := true, laidKinds := [.data, .data], laidTests := true, laidLooks := .later }
def VaryReadsCardSaid : Prop := Claim7.holds Tryd.pinned (.plain (OpenSpec.ofChange varyReadsSpec)) varyReadsCard

/-- THE TIED CARD OF 'limnographlaw06.VaryRows'. -/
def varyRowsCard : Claim7 := { stood := { row := varyRowsRow, standIns := [], harness := (true, "c66fe92b2e242e80a5d851af1f358716a883b9d1b10f7d6b7e08f780278457ca"), looks := false }, kinds := [], alts := [], laidByText := true, laidKinds := [.data, .data], laidTests := true, laidLooks := .later }
def VaryRowsCardSaid : Prop := Claim7.holds Tryd.pinned (.plain (OpenSpec.ofChange varyRowsSpec)) varyRowsCard

/-- THE TIED CARD OF 'limnographlaw06.VaryTakes'. -/
def varyTakesCard : Claim7 := { stood := { row := varyTakesRow, standIns := [], harness := (true, "c66fe92b2e242e80a5d851af1f358716a883b9d1b10f7d6b7e08f780278457ca"), looks := false }, kinds := [], alts := [], laidByText := true, laidKinds := [.data, .data], laidTests := true, laidLooks := .later }
def VaryTakesCardSaid : Prop := Claim7.holds Tryd.pinned (.plain (OpenSpec.ofChange varyTakesSpec)) varyTakesCard

/-- THE TIED CARD OF 'limnographlaw07.XorRows'. -/
def xorRowsCard : Claim7 := { stood := { row := xorRowsRow, standIns := [], harness := (true, "c66fe92b2e242e80a5d851af1f358716a883b9d1b10f7d6b7e08f780278457ca"), looks := false }, kinds := [], alts := [], laidByText := true, laidKinds := [.data], laidTests := true, laidLooks := .later }
def XorRowsCardSaid : Prop := Claim7.holds Tryd.pinned (.plain (OpenSpec.ofChange xorRowsSpec)) xorRowsCard

/-- THE TIED CARD OF 'limnographlaw07.XorTakes'. -/
def xorTakesCard : Claim7 := { stood := { row := xorTakesRow, standIns := [], harness := (true, "c66fe92b2e242e80a5d851af1f358716a883b9d1b10f7d6b7e08f780278457ca"), looks := false }, kinds := [], alts := [], laidByText := true, laidKinds := [.data], laidTests := true, laidLooks := .later }
def XorTakesCardSaid : Prop := Claim7.holds Tryd.pinned (.plain (OpenSpec.ofChange xorTakesSpec)) xorTakesCard

/-- THE TIED CARD OF 'limnographlaw07.XorSame'. -/
def xorSameCard : Claim7 := { stood := { row := xorSameRow, standIns := [], harness := (true, "c66fe92b2e242e80a5d851af1f358716a883b9d1b10f7d6b7e08f780278457ca"), looks := false }, kinds := [], alts := [], laidByText := true, laidKinds := [.data], laidTests := true, laidLooks := .later }
def XorSameCardSaid : Prop := Claim7.holds Tryd.pinned (.plain (OpenSpec.ofChange xorSameSpec)) xorSameCard

/-- THE SECOND FORM's CARD OF 'limnographlaw06.VarySmall'. -/
def varySmallUptoCard : Claim7 := { stood := { row := varySmallUptoRow, standIns := [], harness := (true, "c66fe92b2e242e80a5d851af1f358716a883b9d1b10f7d6b7e08f780278457ca"), looks := false }, kinds := [], alts := [], laidByText := true, laidKinds := [.data, .data], laidTests := true, laidLooks := .later }
def VarySmallUptoCardSaid : Prop := Claim7.holds Tryd.pinned (.plain (OpenSpec.upto varySmallSpec)) varySmallUptoCard

/-- THE SECOND FORM's CARD OF 'limnographlaw06.VaryReads'. -/
def varyReadsUptoCard : Claim7 := { stood := { row := varyReadsUptoRow, standIns := [], harness := (true, "c66fe92b2e242e80a5d851af1f358716a883b9d1b10f7d6b7e08f780278457ca"), looks := false }, kinds := [], alts := [], laidByText := true, laidKinds := [.data, .data], laidTests := true, laidLooks := .later }
def VaryReadsUptoCardSaid : Prop := Claim7.holds Tryd.pinned (.plain (OpenSpec.upto varyReadsSpec)) varyReadsUptoCard

/-- THE SECOND FORM's CARD OF 'limnographlaw06.VaryRows'. -/
def varyRowsUptoCard : Claim7 := { stood := { row := varyRowsUptoRow, standIns := [], harness := (true, "c66fe92b2e242e80a5d851af1f358716a883b9d1b10f7d6b7e08f780278457ca"), looks := false }, kinds := [], alts := [], laidByText := true, laidKinds := [.data, .data], laidTests := true, laidLooks := .later }
def VaryRowsUptoCardSaid : Prop := Claim7.holds Tryd.pinned (.plain (OpenSpec.upto varyRowsSpec)) varyRowsUptoCard

/-- THE SECOND FORM's CARD OF 'limnographlaw06.VaryTakes'. -/
def varyTakesUptoCard : Claim7 := { stood := { row := varyTakesUptoRow, standIns := [], harness := (true, "c66fe92b2e242e80a5d851af1f358716a883b9d1b10f7d6b7e08f780278457ca"), looks := false }, kinds := [], alts := [], laidByText := true, laidKinds := [.data, .data], laidTests := true, laidLooks := .later }
def VaryTakesUptoCardSaid : Prop := Claim7.holds Tryd.pinned (.plain (OpenSpec.upto varyTakesSpec)) varyTakesUptoCard

/-- THE SECOND FORM's CARD OF 'limnographlaw07.XorRows'. -/
def xorRowsUptoCard : Claim7 := { stood := { row := xorRowsUptoRow, standIns := [], harness := (true, "c66fe92b2e242e80a5d851af1f358716a883b9d1b10f7d6b7e08f780278457ca"), looks := false }, kinds := [], alts := [], laidByText := true, laidKinds := [.data], laidTests := true, laidLooks := .later }
def XorRowsUptoCardSaid : Prop := Claim7.holds Tryd.pinned (.plain (OpenSpec.upto xorRowsSpec)) xorRowsUptoCard

/-- THE SECOND FORM's CARD OF 'limnographlaw07.XorTakes'. -/
def xorTakesUptoCard : Claim7 := { stood := { row := xorTakesUptoRow, standIns := [], harness := (true, "c66fe92b2e242e80a5d851af1f358716a883b9d1b10f7d6b7e08f780278457ca"), looks := false }, kinds := [], alts := [], laidByText := true, laidKinds := [.data], laidTests := true, laidLooks := .later }
def XorTakesUptoCardSaid : Prop := Claim7.holds Tryd.pinned (.plain (OpenSpec.upto xorTakesSpec)) xorTakesUptoCard

/-- THE SECOND FORM's CARD OF 'limnographlaw07.XorSame'. -/
def xorSameUptoCard : Claim7 := { stood := { row := xorSameUptoRow, standIns := [], harness := (true, "c66fe92b2e242e80a5d851af1f358716a883b9d1b10f7d6b7e08f780278457ca"), looks := false }, kinds := [], alts := [], laidByText := true, laidKinds := [.data], laidTests := true, laidLooks := .later }
def XorSameUptoCardSaid : Prop := Claim7.holds Tryd.pinned (.plain (OpenSpec.upto xorSameSpec)) xorSameUptoCard
end Rows
end Go.Proofs.YtaagjedkojlbpaaDoor
