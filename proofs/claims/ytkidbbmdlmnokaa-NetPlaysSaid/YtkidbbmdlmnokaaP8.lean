/- The document's answers for layer 2: power, Others, Zag, GetNum. -/
import Derived.Test.YtkidbbmdlmnokaaP7
import Derived.Test.YtkidbbmdlmnokaaL4
import Derived.Outline
namespace Go.Proofs.Ytkidbbmdlmnokaa
open Go.RowKit
attribute [local go_sem ↓] Go.wp_at_zero Go.wp_at_succ

set_option maxHeartbeats 400000 in
theorem power_any (n : Nat) (hn : n ≤ 63) (w : World) :
    Calls Try.prog 87 #[.int .i64 n] w fun e w' => e = .returned (.int .u64 ((2 ^ n : Nat) : Int)) ∧ w = w' := by
  have n1 : (n : Int) ≤ 63 := by omega
  go_enter Try.func87, Try.ntmps87
  go_wp2
  go_loop [3, 4] (fun p i => ∃ j : Nat, j ≤ n ∧ i = .int .i64 j ∧ p = .int .u64 ((2 ^ j : Nat) : Int)) (fun _ i => n - (intOf i).toNat)
  case atStart => exact ⟨0, Nat.zero_le _, rfl, rfl⟩
  case round =>
    obtain ⟨j, hj, rfl, rfl⟩ := hrel
    by_cases hd : j < n
    · have hp : 2 ^ j ≤ 2 ^ 62 := Nat.pow_le_pow_right (by omega) (by omega)
      have hs : 2 ^ (j + 1) = 2 * 2 ^ j := by rw [Nat.pow_succ]; omega
      obtain ⟨V, hV⟩ : ∃ V : Int, V = ((2 ^ j : Nat) : Int) := ⟨_, rfl⟩
      rw [← hV]
      have HV : Hid (((2 ^ (j + 1) : Nat) : Int) = 2 * V) := by show _ = _; rw [hs, hV]; simp
      have V0 : 0 ≤ V := by rw [hV]; omega
      have V1 : 2 * V ≤ 18446744073709551615 := by rw [hV]; have : (2 : Nat) ^ 62 = 4611686018427387904 := rfl; omega
      clear hp hs hV
      have s1 : IntKind.u64.wrap (2 * V) = 2 * V := wrap_u64_of _ (by omega) V1
      have d1 : (j : Int) < (n : Int) := by omega
      go_wp2
      go_round
      case rel => exact ⟨j + 1, hd, by go_num, by rw [HV.out]⟩
      case measure => simp [intOf]; omega
    · obtain rfl : j = n := by omega
      go_wp2
      go_ret
      exact ⟨rfl, rfl⟩

theorem power_int (m : Int) (h0 : 0 ≤ m) (h1 : m ≤ 63) (w : World) :
    Calls Try.prog 87 #[.int .i64 m] w fun e w' => e = .returned (.int .u64 ((2 ^ m.toNat : Nat) : Int)) ∧ w = w' := by
  obtain ⟨n, rfl⟩ : ∃ n : Nat, m = n := ⟨m.toNat, by omega⟩
  exact power_any n (by omega) w

set_option maxHeartbeats 1000000 in
theorem refOthers_any (v : Int) (h0 : 0 ≤ v) (h1 : v ≤ 18446744073709551615) (w : World) :
    Calls Try.prog 86 #[.int .u64 v] w fun e w' => e = .returned (.int .i64 (oth v)) ∧ w = w' := by
  go_enter Try.func86, Try.ntmps86
  go_wp2
  go_loopw [3] (fun t wr => ∃ k : Nat, k ≤ oth v ∧ t = .int .i64 k ∧ w = wr) (fun t _ => 8 - (intOf t).toNat)
  case atStart => exact ⟨0, Nat.zero_le _, rfl, rfl⟩
  case round =>
    obtain ⟨k, hk, rfl, rfl⟩ := hrel
    have hk8 := oth_le v
    by_cases hd : k < oth v
    · have hs := oth_more v k h0 hd
      have hk' : k < 8 := by omega
      obtain rfl | rfl | rfl | rfl | rfl | rfl | rfl | rfl : k = 0 ∨ k = 1 ∨ k = 2 ∨ k = 3 ∨ k = 4 ∨ k = 5 ∨ k = 6 ∨ k = 7 := by omega
      all_goals
        simp only [Nat.reduceMul, Nat.reduceAdd, Nat.reducePow] at hs
        go_wp2_with (go_at_call 87; refine (power_int _ (by omega) (by omega) _).mono ?_; rintro e w' ⟨rfl, rfl⟩)
        go_roundw
        case rel => exact ⟨_, hd, by go_num, trivial⟩
        case measure => simp [intOf]
    · have he : oth v = k := by omega
      have hs := oth_end v k he
      have HE : Hid (oth v = k) := he
      clear he hk hd
      obtain rfl | rfl | rfl | rfl | rfl | rfl | rfl | rfl | rfl : k = 0 ∨ k = 1 ∨ k = 2 ∨ k = 3 ∨ k = 4 ∨ k = 5 ∨ k = 6 ∨ k = 7 ∨ k = 8 := by have := HE.out; omega
      all_goals
        simp at hs
        go_wp2_with (go_at_call 87; refine (power_int _ (by omega) (by omega) _).mono ?_; rintro e w' ⟨rfl, rfl⟩)
        go_ret
        exact ⟨ret_int (by rw [HE.out]; rfl), rfl⟩
end Go.Proofs.Ytkidbbmdlmnokaa
