/- package vary: goOn, Clone, cut, way. -/
import Derived.Test.YtjpnfadmblmjbaaDoorV11
namespace Go.Proofs.YtjpnfadmblmjbaaDoor
open Go.RowKit
attribute [local go_sem ↓] Go.wp_at_zero Go.wp_at_succ

theorem RowBox.c {w : World} {r : Nat} {n last step : Int} (h : RowBox w r n last step) : w.cell? ⟨r, 0, none⟩ = some (.int .i64 n) ∧ w.cell? ⟨r, 1, none⟩ = some (.int .i64 last) ∧ w.cell? ⟨r, 2, none⟩ = some (.int .i64 step) := by
  refine ⟨?_, ?_, ?_⟩
  · rw [cell_of_row _ _ 0 _ _ _ h]; rfl
  · rw [cell_of_row _ _ 1 _ _ _ h]; rfl
  · rw [cell_of_row _ _ 2 _ _ _ h]; rfl
theorem RowBox.free {w : World} {r : Nat} {n last step : Int} (h : RowBox w r n last step) (j : Nat) : w.frozen? ⟨r, j, none⟩ = false := by
  unfold RowBox at h; simp [World.frozen?, h]
theorem RowBox.lt {w : World} {r : Nat} {n last step : Int} (h : RowBox w r n last step) : r < w.heap.size := (Array.getElem?_eq_some_iff.1 h).1
theorem RowBox.kept {S : Nat → Prop} {w w' : World} {r : Nat} {n last step : Int} (h : RowBox w r n last step) (hk : Kept S w w') (hn : ¬ S r) : RowBox w' r n last step := hk.same h hn
theorem RowBox.set0 {w : World} {r : Nat} {n last step : Int} (h : RowBox w r n last step) (x : Int) : RowBox (w.setCell ⟨r, 0, none⟩ (.int .i64 x)) r x last step := by
  unfold RowBox at *; simp [World.setCell, Array.getElem?_modify, h]
theorem RowBox.set1 {w : World} {r : Nat} {n last step : Int} (h : RowBox w r n last step) (x : Int) : RowBox (w.setCell ⟨r, 1, none⟩ (.int .i64 x)) r n x step := by
  unfold RowBox at *; simp [World.setCell, Array.getElem?_modify, h]
theorem RowBox.set2 {w : World} {r : Nat} {n last step : Int} (h : RowBox w r n last step) (x : Int) : RowBox (w.setCell ⟨r, 2, none⟩ (.int .i64 x)) r n last x := by
  unfold RowBox at *; simp [World.setCell, Array.getElem?_modify, h]

theorem RowBox.upd3 {w : World} {r : Nat} {n last step : Int} (h : RowBox w r n last step) (a b c : Int) :
    RowBox (((w.setCell ⟨r, 2, none⟩ (.int .i64 c)).setCell ⟨r, 1, none⟩ (.int .i64 b)).setCell ⟨r, 0, none⟩ (.int .i64 a)) r a b c ∧ Kept (fun k => k = r) w (((w.setCell ⟨r, 2, none⟩ (.int .i64 c)).setCell ⟨r, 1, none⟩ (.int .i64 b)).setCell ⟨r, 0, none⟩ (.int .i64 a)) :=
  ⟨((h.set2 c).set1 b).set0 a, (((Kept.refl (fun k => k = r) w).setCell (p := ⟨r, 2, none⟩) (fun _ => rfl) _).setCell (p := ⟨r, 1, none⟩) (fun _ => rfl) _).setCell (p := ⟨r, 0, none⟩) (fun _ => rfl) _⟩
theorem RowBox.upd2 {w : World} {r : Nat} {n last step : Int} (h : RowBox w r n last step) (a b : Int) :
    RowBox ((w.setCell ⟨r, 1, none⟩ (.int .i64 b)).setCell ⟨r, 0, none⟩ (.int .i64 a)) r a b step ∧ Kept (fun k => k = r) w ((w.setCell ⟨r, 1, none⟩ (.int .i64 b)).setCell ⟨r, 0, none⟩ (.int .i64 a)) :=
  ⟨(h.set1 b).set0 a, ((Kept.refl (fun k => k = r) w).setCell (p := ⟨r, 1, none⟩) (fun _ => rfl) _).setCell (p := ⟨r, 0, none⟩) (fun _ => rfl) _⟩

/-- The step behind a number. -/
def stepOf (n last step v : Int) : Int := if 0 < n then diffI v last else step

set_option maxHeartbeats 400000 in
theorem goOn_any (r : Nat) (n last step v : Int) (w : World) (HR : RowBox w r n last step) (hn : 0 ≤ n) (hn2 : n ≤ 1000000000) :
    Calls Tryd.prog 59 #[.pointer (some ⟨r, 0, none⟩), .int .i64 v] w fun e w' => e = .returned (.tuple #[]) ∧ RowBox w' r (n + 1) v (stepOf n last step v) ∧ Kept (fun k => k = r) w w' := by
  obtain ⟨h0, h1, h2⟩ := HR.c
  have f0 := HR.free 0
  have f1 := HR.free 1
  have f2 := HR.free 2
  have nw : IntKind.i64.wrap (n + 1) = n + 1 := IntWalk.i64_in _ ⟨by omega, by omega⟩
  by_cases hp : 0 < n
  · have e : wrap64 (v - last) = stepOf n last step v := (if_pos hp).symm
    have F := Lib.hid (HR.upd3 (n + 1) v (stepOf n last step v))
    rw [← e] at F ⊢
    clear HR e
    go_enter Tryd.func59, Tryd.ntmps59
    go_wp2
    go_end0
    exact ⟨rfl, F.out⟩
  · have e : stepOf n last step v = step := if_neg hp
    have F := Lib.hid (HR.upd2 (n + 1) v)
    rw [e]
    clear HR e
    go_enter Tryd.func59, Tryd.ntmps59
    go_wp2
    go_end0
    exact ⟨rfl, F.out⟩

set_option maxHeartbeats 400000 in
theorem rowClone_any (r : Nat) (n last step : Int) (w : World) (HR : RowBox w r n last step) :
    Calls Tryd.prog 27 #[.pointer (some ⟨r, 0, none⟩)] w fun e w' => ∃ q, w.heap.size ≤ q ∧ e = .returned (.pointer (some ⟨q, 0, none⟩)) ∧ RowBox w' q n last step ∧ Kept (fun _ => False) w w' := by
  obtain ⟨h0, h1, h2⟩ := HR.c
  clear HR
  go_enter Tryd.func27, Tryd.ntmps27
  go_wp2
  go_ret
  exact ⟨_, Nat.le_refl _, rfl, heap_alloc_new w _, (Kept.refl _ _).alloc _⟩

/-- How many bits a way has behind it. -/
def widthW : List Nat := [0, 6, 10, 16, 64]
/-- The least way of a difference. -/
def wayN (d : Int) : Nat := if d = 0 then 0 else if -32 ≤ d ∧ d < 32 then 1 else if -512 ≤ d ∧ d < 512 then 2 else if -32768 ≤ d ∧ d < 32768 then 3 else 4
theorem wayN_le (d : Int) : wayN d ≤ 4 := by unfold wayN; split; omega; split; omega; split; omega; split <;> omega
/-- The signed number that the lowest bits of a number tell. -/
def cutI (v b : Nat) : Int := if b = 0 then 0 else if v % 2 ^ b < 2 ^ (b - 1) then ((v % 2 ^ b : Nat) : Int) else ((v % 2 ^ b : Nat) : Int) - ((2 ^ b : Nat) : Int)

set_option maxHeartbeats 400000 in
theorem cut_any (v : Nat) (hv : v < 18446744073709551616) (b : Nat) (hb : b = 0 ∨ b = 6 ∨ b = 10 ∨ b = 16 ∨ b = 64) (w : World) :
    Calls Tryd.prog 94 #[.int .u64 v, .int .i64 b] w fun e w' => e = .returned (.int .i64 (cutI v b)) ∧ w = w' := by
  have h0 : (0 : Int) ≤ (v : Int) := by omega
  rcases hb with rfl | rfl | rfl | rfl | rfl
  · go_enter Tryd.func94, Tryd.ntmps94
    go_wp2
    go_ret
    exact ⟨rfl, rfl⟩
  all_goals
    go_enter Tryd.func94, Tryd.ntmps94
    go_wp2
    go_ret
    refine ⟨ret_int ?_, rfl⟩
    unfold cutI
    rw [if_neg (by omega)]
    simp only [IntKind.wrap_u64, wrap64, Nat.reducePow, Nat.reduceSub]
    split <;> omega
end Go.Proofs.YtjpnfadmblmjbaaDoor
