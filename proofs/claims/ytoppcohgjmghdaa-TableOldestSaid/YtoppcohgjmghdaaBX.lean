/- A block of cells (as in S1, which holds the same: where both are wanted in one seat, let S1 import this). -/
import Derived.Test.YtoppcohgjmghdaaG1
namespace Go.Proofs.Ytoppcohgjmghdaa
open Go.RowKit

/-- A block of cells. -/
def BoxAt (w : World) (q : Nat) (T : TypeId) (cs : Array Value) : Prop := w.heap[q]? = some (.cells cs T (0, 0))
section
variable {w w' : World} {q : Nat} {T : TypeId} {cs : Array Value}
theorem BoxAt.cell (h : BoxAt w q T cs) {i : Nat} {u : Value} (hi : cs[i]? = some u) : w.cell? ⟨q, i, none⟩ = some u := (cell_of_row _ _ i _ _ _ h).trans hi
theorem BoxAt.fz (h : BoxAt w q T cs) (i : Nat) : w.frozen? ⟨q, i, none⟩ = false := by unfold BoxAt at h; simp [World.frozen?, h]
theorem BoxAt.lt (h : BoxAt w q T cs) : q < w.heap.size := (Array.getElem?_eq_some_iff.1 h).1
theorem BoxAt.set (h : BoxAt w q T cs) (i : Nat) (u : Value) : BoxAt (w.setCell ⟨q, i, none⟩ u) q T (cs.set! i u) := by
  unfold BoxAt at *
  simp [World.setCell, Array.getElem?_modify, h]
theorem BoxAt.kept {S : Nat → Prop} (h : BoxAt w q T cs) (k : Kept S w w') (hn : ¬ S q) : BoxAt w' q T cs := k.same h hn
theorem BoxAt.new (w : World) (T : TypeId) (cs : Array Value) : BoxAt (w.alloc (.cells cs T)) w.heap.size T cs := heap_alloc_new w _
theorem kept_set (w : World) (q i : Nat) (u : Value) : Kept (fun k => k = q) w (w.setCell ⟨q, i, none⟩ u) := (Kept.refl (fun k => k = q) w).setCell (p := ⟨q, i, none⟩) (fun _ => rfl) u
end

end Go.Proofs.Ytoppcohgjmghdaa
