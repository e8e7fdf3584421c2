/-
  DERIVED. GIVEN WITH THE SEED: THE CARDS: each row of YteflepcmblacaaaGreatDoorRows.lean that lists a variable, with what it lists TIED to the program's text (the seventh form; the later family's looks); each row that meets fmt, with fmt's text TOLD by the authors' own Lean function (tested against real Go, not proved from fmt's source: count such statements apart). THE CARD IS WHAT COUNTS. Prove the row's statement (the work); the ties are given (YteflepcmblacaaaGreatDoorTie.lean); close each card by the builder's one call (the guide's Derived/Test/ToyasCard.lean, 'card_holds'). Laid BY PROGRAM, IN A SANDBOX (cutbox-door.mjs). By AI agents, Wed Nov 11 2026. No macro, syntax, notation, axiom, sorry.
-/
import Derived.Test.YteflepcmblacaaaGreatDoorRows
import GoSem.ClaimSeven
namespace Go.Proofs.YteflepcmblacaaaGreatDoor
namespace Rows

/-- THE TIED CARD OF 'limnographlaw12.PointBack'. -/
def pointBackCard : Claim7 := { stood := { row := pointBackRow, standIns := [], harness := (true, "425607b1a2c0e885d14a74f8519b4833a22e8e448eb8eb305fd6cbe57ea99755"), looks := false }, kinds := [], alts := [], laidByText := true, laidKinds := [.data, .pinned], laidTests := true, laidLooks := .later }
def PointBackCardSaid : Prop := Claim7.holds Tryz.pinned (.plain (OpenSpec.ofChange pointBackSpec)) pointBackCard

/-- THE TIED CARD OF 'limnographlaw12.PointKeys'. -/
def pointKeysCard : Claim7 := { stood := { row := pointKeysRow, standIns := [], harness := (true, "425607b1a2c0e885d14a74f8519b4833a22e8e448eb8eb305fd6cbe57ea99755"), looks := false }, kinds := [], alts := [], laidByText := true, laidKinds := [.data, .pinned], laidTests := true, laidLooks := .later }
def PointKeysCardSaid : Prop := Claim7.holds Tryz.pinned (.plain (OpenSpec.ofChange pointKeysSpec)) pointKeysCard

/-- THE SECOND FORM's CARD OF 'limnographlaw12.PointBack'. -/
def pointBackUptoCard : Claim7 := { stood := { row := pointBackUptoRow, standIns := [], harness := (true, "425607b1a2c0e885d14a74f8519b4833a22e8e448eb8eb305fd6cbe57ea99755"), looks := false }, kinds := [], alts := [], laidByText := true, laidKinds := [.data, .pinned], laidTests := true, laidLooks := .later }
def PointBackUptoCardSaid : Prop := Claim7.holds Tryz.pinned (.plain (OpenSpec.upto pointBackSpec)) pointBackUptoCard

/-- THE SECOND FORM's CARD OF 'limnographlaw12.PointKeys'. -/
def pointKeysUptoCard : Claim7 := { stood := { row := pointKeysUptoRow, standIns := [], harness := (true, "425607b1a2c0e885d14a74f8519b4833a22e8e448eb8eb305fd6cbe57ea99755"), looks := false }, kinds := [], alts := [], laidByText := true, laidKinds := [.data, .pinned], laidTests := true, laidLooks := .later }
def PointKeysUptoCardSaid : Prop := Claim7.holds Tryz.pinned (.plain (OpenSpec.upto pointKeysSpec)) pointKeysUptoCard
end Rows
end Go.Proofs.YteflepcmblacaaaGreatDoor
