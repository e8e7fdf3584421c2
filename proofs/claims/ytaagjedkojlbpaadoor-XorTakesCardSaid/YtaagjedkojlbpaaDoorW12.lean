/- What the listed variable gives the walks of layer 7. -/
import Derived.Test.YtaagjedkojlbpaaDoorRows
import Derived.Test.YtaagjedkojlbpaaDoorW2
import Derived.Test.YtaagjedkojlbpaaDoorL3
import Derived.Lib.LaidTab
import Derived.LaidMore
import Derived.LaidLaws
import Derived.Stop.Joined
namespace Go.Proofs.YtaagjedkojlbpaaDoor
open Go.ChangeShapes Go.WideShapes Go.ChangeAt Go.RowKit

theorem gBru : Tryd.prog.globalNamed "math/bits.deBruijn64tab" = some 2 := by kernel_rfl
theorem tBru : (Tryd.prog.globals[2]?).map (·.type) = some 109 := by kernel_rfl
theorem door_met7 (os : Os) (args : Array Value) : laidMetH Tryd.prog [("math/bits.deBruijn64tab", Rows.laid_math_bits_deBruijn64tab)] ((World.doorLaid Tryd.prog 400 os).forCall (fun _ _ => 0) ⟨#[], args, []⟩).memory :=
  laidMetH_of_parts3 (fuel := 8) (laidMet_of_run' 8 (by kernel_rfl) (by kernel_rfl)) (by kernel_rfl) (by kernel_rfl)
theorem bru_of_laid {W : World} (h : laidMetH Tryd.prog [("math/bits.deBruijn64tab", Rows.laid_math_bits_deBruijn64tab)] W) : BruTab W := by
  rw [MakeChecks.laidMetH_plain _ _ _ (by kernel_rfl)] at h
  obtain ⟨ps, ⟨g0, t0, cs0, f0, p0, q0, hg0, ht0, hv0, hd0, _, _⟩, _, _⟩ := h
  obtain rfl := Option.some.inj (gBru.symm.trans hg0)
  obtain rfl := Option.some.inj (tBru.symm.trans ht0)
  have hcs0 := Lib.cells_of_tab (zs := Lib.deBruijn64tab.map fun (x : Nat) => (x : Int)) Tryd.underlying109 Tryd.underlying5 (by kernel_rfl) (by kernel_rfl) hd0
  intro j hj
  rw [World.var?_cell hg0 hv0 j]
  have e : cs0[j]? = cs0.toList[j]? := by simp
  rw [e, hcs0]
  have hl : j < Lib.deBruijn64tab.length := hj
  simp [List.getElem?_map, List.getElem?_eq_getElem hl, List.getD_eq_getElem?_getD]
end Go.Proofs.YtaagjedkojlbpaaDoor
