/- What the listed variables give the walks of layer 6. -/
import Derived.Test.YtaagjedkojlbpaaDoorRows
import Derived.Test.YtaagjedkojlbpaaDoorV14
import Derived.Test.YtaagjedkojlbpaaDoorL3
import Derived.Lib.LaidTab
import Derived.LaidMore
import Derived.LaidLaws
import Derived.Stop.Joined
namespace Go.Proofs.YtaagjedkojlbpaaDoor
open Go.ChangeShapes Go.WideShapes Go.ChangeAt Go.RowKit

theorem gCls : Tryd.prog.globalNamed "limnograph/vary.classes" = some 0 := by kernel_rfl
theorem tCls : (Tryd.prog.globals[0]?).map (·.type) = some 76 := by kernel_rfl
theorem gWay : Tryd.prog.globalNamed "limnograph/vary.ways" = some 1 := by kernel_rfl
theorem tWay : (Tryd.prog.globals[1]?).map (·.type) = some 103 := by kernel_rfl
theorem door_met6 (os : Os) (args : Array Value) : laidMetH Tryd.prog [("limnograph/vary.classes", Rows.laid_limnograph_vary_classes), ("limnograph/vary.ways", Rows.laid_limnograph_vary_ways)] ((World.doorLaid Tryd.prog 400 os).forCall (fun _ _ => 0) ⟨#[], args, []⟩).memory :=
  laidMetH_of_parts3 (fuel := 8) (laidMet_of_run' 8 (by kernel_rfl) (by kernel_rfl)) (by kernel_rfl) (by kernel_rfl)
theorem tabs_of_laid {W : World} (h : laidMetH Tryd.prog [("limnograph/vary.classes", Rows.laid_limnograph_vary_classes), ("limnograph/vary.ways", Rows.laid_limnograph_vary_ways)] W) : Tabs W := by
  rw [MakeChecks.laidMetH_plain _ _ _ (by kernel_rfl)] at h
  obtain ⟨ps, ⟨g0, t0, cs0, f0, p0, q0, hg0, ht0, hv0, hd0, ⟨g1, t1, cs1, f1, p1, q1, hg1, ht1, hv1, hd1, _, _⟩, _⟩, _, _⟩ := h
  obtain rfl := Option.some.inj (gCls.symm.trans hg0)
  obtain rfl := Option.some.inj (tCls.symm.trans ht0)
  obtain rfl := Option.some.inj (gWay.symm.trans hg1)
  obtain rfl := Option.some.inj (tWay.symm.trans ht1)
  have hcs0 := Lib.cells_of_tab (zs := sizeC.map fun (x : Nat) => (x : Int)) Tryd.underlying76 Tryd.underlying3 (by kernel_rfl) (by kernel_rfl) hd0
  have hcs1 := Lib.cells_of_tab (zs := widthW.map fun (x : Nat) => (x : Int)) Tryd.underlying103 Tryd.underlying3 (by kernel_rfl) (by kernel_rfl) hd1
  refine ⟨fun j hj => ?_, fun j hj => ?_⟩
  · rw [World.var?_cell hg0 hv0 j]
    have e : cs0[j]? = cs0.toList[j]? := by simp
    rw [e, hcs0]
    have hl : j < sizeC.length := hj
    simp [List.getElem?_map, List.getElem?_eq_getElem hl, List.getD_eq_getElem?_getD]
  · rw [World.var?_cell hg1 hv1 j]
    have e : cs1[j]? = cs1.toList[j]? := by simp
    rw [e, hcs1]
    have hl : j < widthW.length := hj
    simp [List.getElem?_map, List.getElem?_eq_getElem hl, List.getD_eq_getElem?_getD]
end Go.Proofs.YtaagjedkojlbpaaDoor
