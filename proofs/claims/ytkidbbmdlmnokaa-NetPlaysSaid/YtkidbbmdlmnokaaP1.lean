/- Contracts of package pack's plain functions: Zig, Zag. -/
import Derived.Test.YtkidbbmdlmnokaaRows
import Derived.Test.YtkidbbmdlmnokaaL0
import Derived.Test.YtkidbbmdlmnokaaL1
import Derived.Outline
namespace Go.Proofs.Ytkidbbmdlmnokaa
open Go.RowKit

set_option maxHeartbeats 400000 in
theorem zig_any (a : Int) (h0 : -9223372036854775808 ≤ a) (h1 : a ≤ 9223372036854775807) (w : World) :
    Calls Try.prog 88 #[.int .i64 a] w fun e w' => e = .returned (.int .u64 (zigI a)) ∧ w = w' := by
  go_enter Try.func88, Try.ntmps88
  go_wp2
  go_ret
  exact ⟨ret_int (zig_bits a h0 h1), rfl⟩

set_option maxHeartbeats 400000 in
theorem zag_any (v : Int) (h0 : 0 ≤ v) (h1 : v ≤ 18446744073709551615) (w : World) :
    Calls Try.prog 91 #[.int .u64 v] w fun e w' => e = .returned (.int .i64 (zagI v)) ∧ w = w' := by
  go_enter Try.func91, Try.ntmps91
  go_wp2
  go_ret
  exact ⟨ret_int (zag_bits v h0 h1), rfl⟩

set_option maxHeartbeats 400000 in
theorem refZig_any (a : Int) (h0 : -9223372036854775808 ≤ a) (h1 : a ≤ 9223372036854775807) (w : World) :
    Calls Try.prog 51 #[.int .i64 a] w fun e w' => e = .returned (.int .u64 (zigI a)) ∧ w = w' := by
  by_cases h : 0 ≤ a
  · have hz : zigI a = 2 * a := if_pos h
    go_enter Try.func51, Try.ntmps51
    go_wp2
    go_ret
    exact ⟨ret_int hz.symm, rfl⟩
  · have hz : zigI a = 2 * (-1 - a) + 1 := by unfold zigI; rw [if_neg h]; omega
    go_enter Try.func51, Try.ntmps51
    go_wp2
    go_ret
    exact ⟨rfl, rfl⟩

set_option maxHeartbeats 400000 in
/-- How many bytes a number's form has behind the first one. -/
theorem others_any (v : Int) (h0 : 0 ≤ v) (h1 : v ≤ 18446744073709551615) (w : World) :
    Calls Try.prog 85 #[.int .u64 v] w fun e w' => e = .returned (.int .i64 (oth v)) ∧ w = w' := by
  go_enter Try.func85, Try.ntmps85
  go_wp2
  go_loop [3] (fun t => ∃ k : Nat, k ≤ oth v ∧ t = .int .i64 k) (fun t => 8 - (intOf t).toNat)
  case atStart => exact ⟨0, Nat.zero_le _, rfl⟩
  case round =>
    obtain ⟨k, hk, rfl⟩ := hrel
    have hk8 := oth_le v
    by_cases hd : k < oth v
    · have hs := oth_more v k h0 hd
      have hk' : k < 8 := by omega
      obtain rfl | rfl | rfl | rfl | rfl | rfl | rfl | rfl : k = 0 ∨ k = 1 ∨ k = 2 ∨ k = 3 ∨ k = 4 ∨ k = 5 ∨ k = 6 ∨ k = 7 := by omega
      all_goals
        simp only [Nat.reduceMul, Nat.reduceAdd, Nat.reducePow] at hs
        go_wp2
        go_round
        case rel => exact ⟨_, hd, by go_num⟩
        case measure => simp [intOf]
    · have he : oth v = k := by omega
      have hs := oth_end v k he
      have HE : Hid (oth v = k) := he
      clear he hk hd
      obtain rfl | rfl | rfl | rfl | rfl | rfl | rfl | rfl | rfl : k = 0 ∨ k = 1 ∨ k = 2 ∨ k = 3 ∨ k = 4 ∨ k = 5 ∨ k = 6 ∨ k = 7 ∨ k = 8 := by have := HE.out; omega
      all_goals
        simp at hs
        go_wp2
        go_ret
        exact ⟨ret_int (by rw [HE.out]; rfl), rfl⟩
end Go.Proofs.Ytkidbbmdlmnokaa
