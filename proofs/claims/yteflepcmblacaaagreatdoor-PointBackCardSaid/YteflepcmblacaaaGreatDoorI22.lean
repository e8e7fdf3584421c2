/- Layer 12: what the listed variables give (nothing is wanted of them); PointKeys' walk as the frame calls it. -/
import Derived.Test.YteflepcmblacaaaGreatDoorRows
import Derived.Test.YteflepcmblacaaaGreatDoorI21
import Derived.Lib.LaidTab
import Derived.LaidMore
import Derived.Lay
import Derived.LaidOnce
import Derived.LaidLaws
import Derived.Stop.Joined
import Derived.ChangeSame
namespace Go.Proofs.YteflepcmblacaaaGreatDoor
open Go.ChangeShapes Go.WideShapes Go.ChangeAt Go.Deep Go.RowKit

theorem door_met12 (os : Os) (args : Array Value) : laidMetH Tryz.prog Rows.pointBackRow.laid ((World.laidAll Tryz.prog os Rows.pointBackRow.laid).forCall (fun _ _ => 0) ⟨#[], args, []⟩).memory := by
  rw [MakeChecks.laidMetH_plain _ _ _ (by kernel_rfl)]
  exact laidMet_laidAll _ (by kernel_rfl) (by kernel_rfl)
theorem lay_shaped12 (os : Os) : (World.laidAll Tryz.prog os Rows.pointBackRow.laid).Shaped Tryz.prog := World.shaped_of_ZipB (by kernel_rfl) (by kernel_rfl)
theorem pointKeys_walk (x : Pnt) (xaa xpa xna : Option Addr) (xac xpc xnc : Nat) (y : Pnt) (yaa ypa yna : Option Addr) (yac ypc ync : Nat) (W : World)
    (hx : PntAt W x xaa xac (.slice xpa x.h.pl.length xpc) (.slice xna x.h.nl.length xnc)) (hox : x.ok) (hlx : x.L.length ≤ 9223372036854775807)
    (hy : PntAt W y yaa yac (.slice ypa y.h.pl.length ypc) (.slice yna y.h.nl.length ync)) (hoy : y.ok) (hly : y.L.length ≤ 9223372036854775807) (_ : NoTab W) :
    Calls Tryz.prog 4 #[pntV x (.slice xaa x.L.length xac) (.slice xpa x.h.pl.length xpc) (.slice xna x.h.nl.length xnc), pntV y (.slice yaa y.L.length yac) (.slice ypa y.h.pl.length ypc) (.slice yna y.h.nl.length ync)] W fun e w' => e = .returned (.bool true) ∧ Kept (fun _ => False) W w' :=
  pointKeys_walk0 x y xaa xpa xna yaa ypa yna xac xpc xnc yac ypc ync W hx hy hox hoy hlx hly
end Go.Proofs.YteflepcmblacaaaGreatDoor
