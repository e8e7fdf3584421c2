/- package limnographref06: size, power, Class. -/
import Derived.Test.YtjpnfadmblmjbaaDoorV5
namespace Go.Proofs.YtjpnfadmblmjbaaDoor
open Go.RowKit
attribute [local go_sem ↓] Go.wp_at_zero Go.wp_at_succ

set_option maxHeartbeats 1000000 in
theorem refSize_any (c : Nat) (hc : c < 4) (w : World) :
    Calls Tryd.prog 52 #[.int .i64 c] w fun e w' => e = .returned (.int .i64 ((sizeC.getD c 0 : Nat) : Int)) ∧ Kept (fun _ => False) w w' := by
  have hcc : c = 0 ∨ c = 1 ∨ c = 2 ∨ c = 3 := by omega
  rcases hcc with rfl | rfl | rfl | rfl
  all_goals
    go_enter Tryd.func52, Tryd.ntmps52
    go_wp2
    go_ret
    exact ⟨rfl, (Kept.refl _ _).alloc _⟩

set_option maxHeartbeats 1000000 in
theorem refPower_any (n : Nat) (hn : n ≤ 63) (w : World) :
    Calls Tryd.prog 80 #[.int .i64 n] w fun e w' => e = .returned (.int .u64 ((2 ^ n : Nat) : Int)) ∧ w = w' := by
  go_enter Tryd.func80, Tryd.ntmps80
  go_wp2
  go_loopw [3, 4] (fun x t wr => ∃ j y : Nat, j ≤ n ∧ y = 2 ^ j ∧ x = .int .u64 y ∧ t = .int .i64 j ∧ w = wr) (fun _ t _ => n - (intOf t).toNat)
  case atStart => exact ⟨0, 1, by omega, rfl, rfl, rfl, rfl⟩
  case round =>
    obtain ⟨j, y, hj, hy, rfl, rfl, rfl⟩ := hrel
    by_cases hd : j < n
    · have hd' : (j : Int) < (n : Int) := by omega
      have hj0 : (0 : Int) ≤ (j : Int) := by omega
      have hp : 2 ^ (j + 1) ≤ 2 ^ 63 := Nat.pow_le_pow_right (by omega) (by omega)
      have hy2 : 2 * y = 2 ^ (j + 1) := by rw [hy, Nat.pow_succ, Nat.mul_comm]
      obtain ⟨z, hz⟩ : ∃ z, z = 2 * y := ⟨_, rfl⟩
      have hzl : z ≤ 9223372036854775808 := by
        have e : (2 : Nat) ^ 63 = 9223372036854775808 := by decide
        omega
      have f1 : 2 * (y : Int) = (z : Int) := by omega
      have f2 : IntKind.u64.wrap (z : Int) = (z : Int) := by rw [IntKind.wrap_u64]; omega
      have HZ : Hid (z = 2 ^ (j + 1)) := Lib.hid (by omega)
      clear hp hy2 hz hy
      go_wp2
      go_roundw
      case rel => exact ⟨j + 1, z, hd, HZ.out, rfl, by go_num, trivial⟩
      case measure => simp [intOf]; omega
    · have hjn : n = j := by omega
      subst hjn
      have HY := Lib.hid hy
      clear hy
      go_wp2
      go_ret
      exact ⟨by rw [← HY.out]; rfl, rfl⟩

set_option maxHeartbeats 2000000 in
theorem refClass_any (v : Nat) (hv : v < 18446744073709551616) (w : World) :
    Calls Tryd.prog 50 #[.int .u64 v] w fun e w' => e = .returned (.int .i64 ((classN v : Nat) : Int)) ∧ Kept (fun _ => False) w w' := by
  have HC : Hid (classN v = if v < 1 then 0 else if v < 128 then 1 else if v < 1048576 then 2 else 3) := Lib.hid rfl
  have HSZ := Lib.hid refSize_any
  have P0 := Lib.hid (refPower_any 0 (by omega))
  have P1 := Lib.hid (refPower_any 7 (by omega))
  have P2 := Lib.hid (refPower_any 20 (by omega))
  go_enter Tryd.func50, Tryd.ntmps50
  go_wp2
  go_loopw [3] (fun t wr => ∃ c : Nat, c ≤ 3 ∧ (c = 1 → 1 ≤ v) ∧ (c = 2 → 128 ≤ v) ∧ (c = 3 → 1048576 ≤ v) ∧ t = .int .i64 c ∧ Kept (fun _ => False) w wr) (fun t _ => 3 - (intOf t).toNat)
  case atStart => exact ⟨0, by omega, fun h => absurd h (by omega), fun h => absurd h (by omega), fun h => absurd h (by omega), rfl, Kept.refl _ _⟩
  case round =>
    obtain ⟨c, hc3, k1, k2, k3, rfl, hk⟩ := hrel
    have HK := Lib.hid hk
    clear hk
    have hcc : c = 0 ∨ c = 1 ∨ c = 2 ∨ c = 3 := by omega
    rcases hcc with rfl | rfl | rfl | rfl
    · by_cases h : v < 1
      · have HE : Hid (classN v = 0) := Lib.hid (by rw [HC.out, if_pos h])
        have q : decide ((v : Int) < 1) = true := decide_eq_true (by omega)
        clear k1 k2 k3
        go_wp2_with (first
          | (go_at_call 52; refine (HSZ.out 0 (by omega) _).mono ?_; rintro e w1 ⟨rfl, hk⟩; have H1 := Lib.hid (HK.out.trans hk); clear hk)
          | (go_at_call 80; refine (P0.out _).mono ?_; rintro e w1 ⟨rfl, rfl⟩))
        go_ret
        exact ⟨by rw [HE.out]; rfl, H1.out⟩
      · have q : decide ((v : Int) < 1) = false := decide_eq_false (by omega)
        clear k1 k2 k3
        go_wp2_with (first
          | (go_at_call 52; refine (HSZ.out 0 (by omega) _).mono ?_; rintro e w1 ⟨rfl, hk⟩; have H1 := Lib.hid (HK.out.trans hk); clear hk)
          | (go_at_call 80; refine (P0.out _).mono ?_; rintro e w1 ⟨rfl, rfl⟩))
        go_roundw
        case rel => exact ⟨1, by omega, fun _ => by omega, fun h => absurd h (by omega), fun h => absurd h (by omega), rfl, H1.out⟩
        case measure => simp [intOf]
    · by_cases h : v < 128
      · have HE : Hid (classN v = 1) := Lib.hid (by rw [HC.out, if_neg (by have := k1 rfl; omega), if_pos h])
        have q : decide ((v : Int) < 128) = true := decide_eq_true (by omega)
        clear k1 k2 k3
        go_wp2_with (first
          | (go_at_call 52; refine (HSZ.out 1 (by omega) _).mono ?_; rintro e w1 ⟨rfl, hk⟩; have H1 := Lib.hid (HK.out.trans hk); clear hk)
          | (go_at_call 80; refine (P1.out _).mono ?_; rintro e w1 ⟨rfl, rfl⟩))
        go_ret
        exact ⟨by rw [HE.out]; rfl, H1.out⟩
      · have q : decide ((v : Int) < 128) = false := decide_eq_false (by omega)
        clear k1 k2 k3
        go_wp2_with (first
          | (go_at_call 52; refine (HSZ.out 1 (by omega) _).mono ?_; rintro e w1 ⟨rfl, hk⟩; have H1 := Lib.hid (HK.out.trans hk); clear hk)
          | (go_at_call 80; refine (P1.out _).mono ?_; rintro e w1 ⟨rfl, rfl⟩))
        go_roundw
        case rel => exact ⟨2, by omega, fun h => absurd h (by omega), fun _ => by omega, fun h => absurd h (by omega), rfl, H1.out⟩
        case measure => simp [intOf]
    · by_cases h : v < 1048576
      · have HE : Hid (classN v = 2) := Lib.hid (by rw [HC.out, if_neg (by have := k2 rfl; omega), if_neg (by have := k2 rfl; omega), if_pos h])
        have q : decide ((v : Int) < 1048576) = true := decide_eq_true (by omega)
        clear k1 k2 k3
        go_wp2_with (first
          | (go_at_call 52; refine (HSZ.out 2 (by omega) _).mono ?_; rintro e w1 ⟨rfl, hk⟩; have H1 := Lib.hid (HK.out.trans hk); clear hk)
          | (go_at_call 80; refine (P2.out _).mono ?_; rintro e w1 ⟨rfl, rfl⟩))
        go_ret
        exact ⟨by rw [HE.out]; rfl, H1.out⟩
      · have q : decide ((v : Int) < 1048576) = false := decide_eq_false (by omega)
        clear k1 k2 k3
        go_wp2_with (first
          | (go_at_call 52; refine (HSZ.out 2 (by omega) _).mono ?_; rintro e w1 ⟨rfl, hk⟩; have H1 := Lib.hid (HK.out.trans hk); clear hk)
          | (go_at_call 80; refine (P2.out _).mono ?_; rintro e w1 ⟨rfl, rfl⟩))
        go_roundw
        case rel => exact ⟨3, by omega, fun h => absurd h (by omega), fun h => absurd h (by omega), fun _ => by omega, rfl, H1.out⟩
        case measure => simp [intOf]
    · have HE : Hid (classN v = 3) := Lib.hid (by rw [HC.out, if_neg (by have := k3 rfl; omega), if_neg (by have := k3 rfl; omega), if_neg (by have := k3 rfl; omega)])
      clear k1 k2 k3
      go_wp2
      go_ret
      exact ⟨by rw [HE.out]; rfl, HK.out⟩
end Go.Proofs.YtjpnfadmblmjbaaDoor
