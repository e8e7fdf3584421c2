/- Contracts of pack's Zig, Zag in a seat without the rest of pack (P1's beginning). -/
import Derived.Test.YtjpnfadmblmjbaaDoorRows
import Derived.Test.YtjpnfadmblmjbaaDoorL0
import Derived.Test.YtjpnfadmblmjbaaDoorVL
import Derived.Outline
namespace Go.Proofs.YtjpnfadmblmjbaaDoor
open Go.RowKit

set_option maxHeartbeats 400000 in
theorem zig_any (a : Int) (h0 : -9223372036854775808 ≤ a) (h1 : a ≤ 9223372036854775807) (w : World) :
    Calls Tryd.prog 49 #[.int .i64 a] w fun e w' => e = .returned (.int .u64 (zigI a)) ∧ w = w' := by
  go_enter Tryd.func49, Tryd.ntmps49
  go_wp2
  go_ret
  exact ⟨ret_int (zig_bits a h0 h1), rfl⟩

set_option maxHeartbeats 400000 in
theorem zag_any (v : Int) (h0 : 0 ≤ v) (h1 : v ≤ 18446744073709551615) (w : World) :
    Calls Tryd.prog 56 #[.int .u64 v] w fun e w' => e = .returned (.int .i64 (zagI v)) ∧ w = w' := by
  go_enter Tryd.func56, Tryd.ntmps56
  go_wp2
  go_ret
  exact ⟨ret_int (zag_bits v h0 h1), rfl⟩

set_option maxHeartbeats 400000 in
theorem refZig_any (a : Int) (h0 : -9223372036854775808 ≤ a) (h1 : a ≤ 9223372036854775807) (w : World) :
    Calls Tryd.prog 15 #[.int .i64 a] w fun e w' => e = .returned (.int .u64 (zigI a)) ∧ w = w' := by
  by_cases h : 0 ≤ a
  · have hz : zigI a = 2 * a := if_pos h
    go_enter Tryd.func15, Tryd.ntmps15
    go_wp2
    go_ret
    exact ⟨ret_int hz.symm, rfl⟩
  · have hz : zigI a = 2 * (-1 - a) + 1 := by unfold zigI; rw [if_neg h]; omega
    go_enter Tryd.func15, Tryd.ntmps15
    go_wp2
    go_ret
    exact ⟨rfl, rfl⟩
end Go.Proofs.YtjpnfadmblmjbaaDoor
