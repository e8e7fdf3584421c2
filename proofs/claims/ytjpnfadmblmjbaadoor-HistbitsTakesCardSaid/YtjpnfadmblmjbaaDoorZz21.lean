/- Texts put together: ZT. -/
import Derived.Test.YtjpnfadmblmjbaaDoorRows
import Derived.Test.YtjpnfadmblmjbaaDoorZz4
import Derived.Test.YtjpnfadmblmjbaaDoorZz1
import Derived.Lib.LaidTab
import Derived.LaidMore
import Derived.LaidLaws
import Derived.Stop.Joined
import Derived.Test.YtjpnfadmblmjbaaDoorZz20
/- What the listed variable gives the walks of layer 10. -/
namespace Go.Proofs.YtjpnfadmblmjbaaDoor
open Go.ChangeShapes Go.WideShapes Go.ChangeAt Go.RowKit

theorem gClsH : Tryd.prog.globalNamed "limnograph/vary.classes" = some 0 := by kernel_rfl
theorem tClsH : (Tryd.prog.globals[0]?).map (·.type) = some 82 := by kernel_rfl
theorem door_met10 (os : Os) (args : Array Value) : laidMetH Tryd.prog [("limnograph/vary.classes", Rows.laid_limnograph_vary_classes)] ((World.doorLaid Tryd.prog 400 os).forCall (fun _ _ => 0) ⟨#[], args, []⟩).memory :=
  laidMetH_of_parts3 (fuel := 8) (laidMet_of_run' 8 (by kernel_rfl) (by kernel_rfl)) (by kernel_rfl) (by kernel_rfl)
theorem class_of_laid {W : World} (h : laidMetH Tryd.prog [("limnograph/vary.classes", Rows.laid_limnograph_vary_classes)] W) : ClassTab W := by
  rw [MakeChecks.laidMetH_plain _ _ _ (by kernel_rfl)] at h
  obtain ⟨ps, ⟨g0, t0, cs0, f0, p0, q0, hg0, ht0, hv0, hd0, _, _⟩, _, _⟩ := h
  obtain rfl := Option.some.inj (gClsH.symm.trans hg0)
  obtain rfl := Option.some.inj (tClsH.symm.trans ht0)
  have hcs0 := Lib.cells_of_tab (zs := sizeC.map fun (x : Nat) => (x : Int)) Tryd.underlying82 Tryd.underlying3 (by kernel_rfl) (by kernel_rfl) hd0
  intro j hj
  rw [World.var?_cell hg0 hv0 j]
  have e : cs0[j]? = cs0.toList[j]? := by simp
  rw [e, hcs0]
  have hl : j < sizeC.length := hj
  simp [List.getElem?_map, List.getElem?_eq_getElem hl, List.getD_eq_getElem?_getD]
end Go.Proofs.YtjpnfadmblmjbaaDoor
