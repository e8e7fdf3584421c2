/- package vary: the row of numbers in memory; NewRow, Len, goOn. -/
import Derived.Test.YtjpnfadmblmjbaaDoorV10
namespace Go.Proofs.YtjpnfadmblmjbaaDoor
open Go.RowKit
attribute [local go_sem ↓] Go.wp_at_zero Go.wp_at_succ

/-- The row behind the pointer to block r has n numbers, the last one, and the step to it. -/
def RowBox (w : World) (r : Nat) (n last step : Int) : Prop := w.heap[r]? = some (.cells #[.int .i64 n, .int .i64 last, .int .i64 step] 93 (0, 0))
/-- A difference modulo 2^64, as a signed number. -/
def diffI (a b : Int) : Int := wrap64 (a - b)

set_option maxHeartbeats 400000 in
theorem newRow_any (w : World) :
    Calls Tryd.prog 26 #[] w fun e w' => e = .returned (.pointer (some ⟨w.heap.size, 0, none⟩)) ∧ RowBox w' w.heap.size 0 0 0 ∧ Kept (fun _ => False) w w' := by
  go_enter Tryd.func26, Tryd.ntmps26
  go_wp2
  go_ret
  exact ⟨rfl, heap_alloc_new w _, (Kept.refl _ _).alloc _⟩

set_option maxHeartbeats 400000 in
theorem rowLen_any (r : Nat) (n last step : Int) (w : World) (HR : RowBox w r n last step) :
    Calls Tryd.prog 29 #[.pointer (some ⟨r, 0, none⟩)] w fun e w' => e = .returned (.int .i64 n) ∧ w = w' := by
  have hc : w.cell? ⟨r, 0, none⟩ = some (.int .i64 n) := by rw [cell_of_row _ _ 0 _ _ _ HR]; rfl
  go_enter Tryd.func29, Tryd.ntmps29
  go_wp2
  go_ret
  exact ⟨rfl, rfl⟩
end Go.Proofs.YtjpnfadmblmjbaaDoor
