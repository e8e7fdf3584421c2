/- Texts put together: F12. -/
import Derived.Test.YtficodklidaheaaDoorRows
import Derived.Test.YtficodklidaheaaDoorZz18
import Derived.Lib.LaidTab
import Derived.LaidMore
import Derived.LaidLaws
import Derived.Stop.Joined
import Derived.Test.YtficodklidaheaaDoorZz27
/- What the listed variable gives the walks. -/
namespace Go.Proofs.YtficodklidaheaaDoor
open Go.ChangeShapes Go.WideShapes Go.ChangeAt Go.RowKit

theorem gNib : Tryd.prog.globalNamed "limnograph/crc.nibbles" = some 0 := by kernel_rfl
theorem tNib : (Tryd.prog.globals[0]?).map (·.type) = some 142 := by kernel_rfl
theorem door_met (os : Os) (args : Array Value) : laidMetH Tryd.prog [("limnograph/crc.nibbles", Rows.laid_limnograph_crc_nibbles)] ((World.doorLaid Tryd.prog 400 os).forCall (fun _ _ => 0) ⟨#[], args, []⟩).memory :=
  laidMetH_of_parts3 (fuel := 8) (laidMet_of_run' 8 (by kernel_rfl) (by kernel_rfl)) (by kernel_rfl) (by kernel_rfl)
theorem nibs_of_laid {W : World} (h : laidMetH Tryd.prog [("limnograph/crc.nibbles", Rows.laid_limnograph_crc_nibbles)] W) : Nibs W := by
  rw [MakeChecks.laidMetH_plain _ _ _ (by kernel_rfl)] at h
  obtain ⟨ps, ⟨g0, t0, cs0, f0, p0, q0, hg0, ht0, hv0, hd0, _, _⟩, _, _⟩ := h
  obtain rfl := Option.some.inj (gNib.symm.trans hg0)
  obtain rfl := Option.some.inj (tNib.symm.trans ht0)
  have hcs := Lib.cells_of_tab (zs := nibL.map fun (x : Nat) => (x : Int)) Tryd.underlying142 Tryd.underlying104 (by kernel_rfl) (by kernel_rfl) hd0
  intro j hj
  have hc := World.var?_cell hg0 hv0 j
  rw [hc]
  have e : cs0[j]? = cs0.toList[j]? := by simp
  rw [e, hcs]
  have hl : j < nibL.length := hj
  simp [List.getElem?_map, List.getElem?_eq_getElem hl, List.getD_eq_getElem?_getD]
end Go.Proofs.YtficodklidaheaaDoor
