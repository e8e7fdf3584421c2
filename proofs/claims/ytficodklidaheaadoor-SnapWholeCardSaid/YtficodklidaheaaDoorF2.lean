/- package frame, layer 4: Size, four. -/
import Derived.Test.YtficodklidaheaaDoorF1
namespace Go.Proofs.YtficodklidaheaaDoor
open Go.RowKit
attribute [local go_sem ↓] Go.wp_at_zero Go.wp_at_succ

/-- A number's four bytes, the lowest first. -/
def fourL (v : Nat) : List Nat := [v % 256, v / 256 % 256, v / 65536 % 256, v / 16777216 % 256]
def b8 (l : List Nat) : List Value := l.map fun (n : Nat) => Value.int .u8 (n : Int)
def sizeN (n : Int) : Int := if n < 0 ∨ 65536 < n then 0 else 9 + n

set_option maxHeartbeats 1000000 in
theorem four_any (v : Nat) (_hv : v < 4294967296) (w : World) :
    Calls Tryd.prog 62 #[.int .u32 v] w fun e w' => e = .returned (.slice (some ⟨w.heap.size, 0, none⟩) 4 4) ∧ w' = w.alloc (.cells (b8 (fourL v)).toArray 5) := by
  have e1 : IntKind.u8.wrap (v : Int) = ((v % 256 : Nat) : Int) := by rw [IntKind.wrap_u8]; omega
  have e2 : IntKind.u8.wrap ((v : Int) / 256) = ((v / 256 % 256 : Nat) : Int) := by rw [IntKind.wrap_u8]; omega
  have e3 : IntKind.u8.wrap ((v : Int) / 65536) = ((v / 65536 % 256 : Nat) : Int) := by rw [IntKind.wrap_u8]; omega
  have e4 : IntKind.u8.wrap ((v : Int) / 16777216) = ((v / 16777216 % 256 : Nat) : Int) := by rw [IntKind.wrap_u8]; omega
  have HE : Hid (b8 (fourL v) = [.int .u8 ((v % 256 : Nat) : Int), .int .u8 ((v / 256 % 256 : Nat) : Int), .int .u8 ((v / 65536 % 256 : Nat) : Int), .int .u8 ((v / 16777216 % 256 : Nat) : Int)]) := Lib.hid rfl
  go_enter Tryd.func62, Tryd.ntmps62
  go_wp2
  go_ret
  exact ⟨rfl, by rw [HE.out]; rfl⟩

set_option maxHeartbeats 1000000 in
theorem size_any (n : Int) (h0 : -9223372036854775808 ≤ n) (h1 : n ≤ 9223372036854775807) (w : World) :
    Calls Tryd.prog 94 #[.int .i64 n] w fun e w' => e = .returned (.int .i64 (sizeN n)) ∧ w = w' := by
  have HS : Hid (sizeN n = if n < 0 ∨ 65536 < n then 0 else 9 + n) := Lib.hid rfl
  by_cases hn : n < 0
  · have c1 : decide (n < 0) = true := decide_eq_true hn
    go_enter Tryd.func94, Tryd.ntmps94
    go_wp2
    go_ret
    exact ⟨by rw [HS.out, if_pos (Or.inl hn)]; rfl, rfl⟩
  · by_cases hb : 65536 < n
    · have c1 : decide (n < 0) = false := decide_eq_false hn
      have c2 : decide (65536 < n) = true := decide_eq_true hb
      go_enter Tryd.func94, Tryd.ntmps94
      go_wp2
      go_ret
      exact ⟨by rw [HS.out, if_pos (Or.inr hb)]; rfl, rfl⟩
    · have c1 : decide (n < 0) = false := decide_eq_false hn
      have c2 : decide (65536 < n) = false := decide_eq_false hb
      have e1 : IntKind.i64.wrap (9 + n) = 9 + n := IntWalk.i64_in _ ⟨by omega, by omega⟩
      go_enter Tryd.func94, Tryd.ntmps94
      go_wp2
      go_ret
      exact ⟨by rw [HS.out, if_neg (by omega)]; rfl, rfl⟩
end Go.Proofs.YtficodklidaheaaDoor
namespace Go.Proofs.YtficodklidaheaaDoor
open Go.RowKit
attribute [local go_sem ↓] Go.wp_at_zero Go.wp_at_succ
/-- The number of four bytes, the lowest first. -/
def numL (l : List Nat) : Nat := l.getD 0 0 + 256 * l.getD 1 0 + 65536 * l.getD 2 0 + 16777216 * l.getD 3 0
theorem num_four (v : Nat) (hv : v < 4294967296) : numL (fourL v) = v := by
  simp [numL, fourL]; omega
theorem numL_lt (l : List Nat) (h : ∀ j, j < 4 → l.getD j 0 < 256) : numL l < 4294967296 := by
  have h0 := h 0 (by omega)
  have h1 := h 1 (by omega)
  have h2 := h 2 (by omega)
  have h3 := h 3 (by omega)
  unfold numL
  omega
end Go.Proofs.YtficodklidaheaaDoor
