/- The walk of 'CrcLong'. -/
import Derived.Test.YtanhdjdojeoodaaDoorC9
import Derived.Deep.RegionWith
namespace Go.Proofs.YtanhdjdojeoodaaDoor
open Go.RowKit
attribute [local go_sem ↓] Go.wp_at_zero Go.wp_at_succ
theorem joinN_lt (a b : Nat) (n : Int) (ha : a < 4294967296) (hb : b < 4294967296) : joinN a b n < 4294967296 := by
  unfold joinN
  split
  · exact ha
  · exact Nat.xor_lt_two_pow (n := 32) (stepsN_lt _ _ ha) hb
theorem joinN_long (a b c : Nat) (m n : Int) (hm : 1 ≤ m) (hn : 1 ≤ n) : joinN (joinN a b m) c n = joinN a (joinN b c n) (m + n) := by
  unfold joinN
  rw [if_neg (by omega), if_neg (by omega), if_neg (by omega), if_neg (by omega), stepsN_xor, ← stepsN_add, Nat.xor_assoc]
  congr 2
  omega
set_option maxHeartbeats 1000000 in
theorem crcLong_good (a b c : Nat) (m n : Int) (W : World) (ha' : a < 4294967296) (hb' : b < 4294967296) (hc' : c < 4294967296) (g1 : 1 ≤ m) (g2 : 1 ≤ n) (g3 : m ≤ 2305843009213693952) (g4 : n ≤ 2305843009213693952) (HN : Nibs W) :
    Calls Tryd.prog 6 #[.int .u32 a, .int .u32 b, .int .u32 c, .int .i64 m, .int .i64 n] W fun e w' => e = .returned (.bool true) ∧ Kept (fun _ => False) W w' := by
  have HA := Lib.hid (awake_any W HN)
  clear HN
  have e1 : IntKind.i64.wrap (m + n) = m + n := IntWalk.i64_in _ ⟨by omega, by omega⟩
  have h1 := joinN_lt a b m ha' hb'
  have h2 := joinN_lt b c n hb' hc'
  have HE := joinN_long a b c m n g1 g2
  have J1 := Lib.hid (fun w => join_any a b m ha' hb' (by omega) (by omega) w)
  have J2 := Lib.hid (fun w => join_any (joinN a b m) c n h1 hc' (by omega) (by omega) w)
  have J3 := Lib.hid (fun w => join_any b c n hb' hc' (by omega) (by omega) w)
  have J4 := Lib.hid (fun w => join_any a (joinN b c n) (m + n) ha' h2 (by omega) (by omega) w)
  obtain ⟨R, hR⟩ : ∃ R, R = joinN a (joinN b c n) (m + n) := ⟨_, rfl⟩
  rw [HE] at J2
  rw [← hR] at J2 J4
  clear HE hR h1 h2
  obtain ⟨S, hS⟩ : ∃ S, S = joinN a b m := ⟨_, rfl⟩
  obtain ⟨T, hT⟩ : ∃ T, T = joinN b c n := ⟨_, rfl⟩
  rw [← hS] at J1 J2
  rw [← hT] at J3 J4
  clear hS hT
  have c1 : decide (m < 1) = false := decide_eq_false (by omega)
  have c2 : decide (n < 1) = false := decide_eq_false (by omega)
  have c3 : decide (2305843009213693952 < m) = false := decide_eq_false (by omega)
  have c4 : decide (2305843009213693952 < n) = false := decide_eq_false (by omega)
  go_enter Tryd.func6, Tryd.ntmps6
  go_wp2_with (first
    | (go_at_call 8; refine HA.out.mono ?_; rintro e w1 ⟨rfl, hk1⟩; have H1 := Lib.hid hk1; clear hk1)
    | (go_at_call_of 13 S; refine (J2.out _).mono ?_; rintro e w3 ⟨rfl, hk3⟩; have H3 := Lib.hid (H2.out.trans hk3); clear hk3)
    | (go_at_call_of 13 T; refine (J4.out _).mono ?_; rintro e w5 ⟨rfl, hk5⟩; have H5 := Lib.hid (H4.out.trans hk5); clear hk5)
    | (go_at_call_of 13 a; refine (J1.out _).mono ?_; rintro e w2 ⟨rfl, hk2⟩; have H2 := Lib.hid (H1.out.trans hk2); clear hk2)
    | (go_at_call_of 13 b; refine (J3.out _).mono ?_; rintro e w4 ⟨rfl, hk4⟩; have H4 := Lib.hid (H3.out.trans hk4); clear hk4))
  go_ret
  exact ⟨by simp, H5.out⟩

set_option maxHeartbeats 1000000 in
theorem crcLong_bad1 (a b c : Nat) (m n : Int) (W : World) (ha' : a < 4294967296) (hb' : b < 4294967296) (hm1 : -9223372036854775808 ≤ m) (c1 : decide (m < 1) = true) (HN : Nibs W) :
    Calls Tryd.prog 6 #[.int .u32 a, .int .u32 b, .int .u32 c, .int .i64 m, .int .i64 n] W fun e w' => e = .returned (.bool true) ∧ Kept (fun _ => False) W w' := by
  have HA := Lib.hid (awake_any W HN)
  clear HN
  have hJ : ∀ x : Int, x ≤ 0 → -9223372036854775808 ≤ x → ∀ w, Calls Tryd.prog 13 #[.int .u32 a, .int .u32 b, .int .i64 x] w fun e w' => e = .returned (.int .u32 (a : Int)) ∧ Kept (fun _ => False) w w' := by
    intro x hx hx2 w
    have h := join_any a b x ha' hb' hx2 (by omega) w
    have e : joinN a b x = a := by unfold joinN; rw [if_pos (by omega)]
    rw [e] at h; exact h
  have hm0 : m ≤ 0 := by have := of_decide_eq_true c1; omega
  have HJ := Lib.hid hJ
  clear hJ
  go_enter Tryd.func6, Tryd.ntmps6
  go_wp2_with (go_at_call 8; refine HA.out.mono ?_; rintro e w1 ⟨rfl, hk1⟩; have H1 := Lib.hid hk1; clear hk1)
  all_goals
    first
      | refine (HJ.out m (by omega) hm1 _).mono ?_
      | refine (HJ.out 0 (by omega) (by omega) _).mono ?_
    rintro e w2 ⟨rfl, hk2⟩
    have H2 := Lib.hid (H1.out.trans hk2)
    clear hk2
    go_wp2
    go_ret
    exact ⟨by simp, H2.out⟩

set_option maxHeartbeats 1000000 in
theorem crcLong_bad2 (a b c : Nat) (m n : Int) (W : World) (ha' : a < 4294967296) (hb' : b < 4294967296) (_hm1 : -9223372036854775808 ≤ m) (hm : 1 ≤ m) (c1 : decide (m < 1) = false) (c2 : decide (n < 1) = true) (HN : Nibs W) :
    Calls Tryd.prog 6 #[.int .u32 a, .int .u32 b, .int .u32 c, .int .i64 m, .int .i64 n] W fun e w' => e = .returned (.bool true) ∧ Kept (fun _ => False) W w' := by
  have HA := Lib.hid (awake_any W HN)
  clear HN
  have hJ : ∀ x : Int, x ≤ 0 → -9223372036854775808 ≤ x → ∀ w, Calls Tryd.prog 13 #[.int .u32 a, .int .u32 b, .int .i64 x] w fun e w' => e = .returned (.int .u32 (a : Int)) ∧ Kept (fun _ => False) w w' := by
    intro x hx hx2 w
    have h := join_any a b x ha' hb' hx2 (by omega) w
    have e : joinN a b x = a := by unfold joinN; rw [if_pos (by omega)]
    rw [e] at h; exact h
  have HJ := Lib.hid hJ
  clear hJ
  go_enter Tryd.func6, Tryd.ntmps6
  go_wp2_with (go_at_call 8; refine HA.out.mono ?_; rintro e w1 ⟨rfl, hk1⟩; have H1 := Lib.hid hk1; clear hk1)
  all_goals try (exfalso; omega)
  all_goals
    refine (HJ.out 0 (by omega) (by omega) _).mono ?_
    rintro e w2 ⟨rfl, hk2⟩
    have H2 := Lib.hid (H1.out.trans hk2)
    clear hk2
    go_wp2
    go_ret
    exact ⟨by simp, H2.out⟩

set_option maxHeartbeats 1000000 in
theorem crcLong_bad3 (a b c : Nat) (m n : Int) (W : World) (ha' : a < 4294967296) (hb' : b < 4294967296) (_hm1 : -9223372036854775808 ≤ m) (hm : 1 ≤ m) (c1 : decide (m < 1) = false) (c2 : decide (n < 1) = false) (c3 : decide (2305843009213693952 < m) = true) (HN : Nibs W) :
    Calls Tryd.prog 6 #[.int .u32 a, .int .u32 b, .int .u32 c, .int .i64 m, .int .i64 n] W fun e w' => e = .returned (.bool true) ∧ Kept (fun _ => False) W w' := by
  have HA := Lib.hid (awake_any W HN)
  clear HN
  have hJ : ∀ x : Int, x ≤ 0 → -9223372036854775808 ≤ x → ∀ w, Calls Tryd.prog 13 #[.int .u32 a, .int .u32 b, .int .i64 x] w fun e w' => e = .returned (.int .u32 (a : Int)) ∧ Kept (fun _ => False) w w' := by
    intro x hx hx2 w
    have h := join_any a b x ha' hb' hx2 (by omega) w
    have e : joinN a b x = a := by unfold joinN; rw [if_pos (by omega)]
    rw [e] at h; exact h
  have HJ := Lib.hid hJ
  clear hJ
  go_enter Tryd.func6, Tryd.ntmps6
  go_wp2_with (go_at_call 8; refine HA.out.mono ?_; rintro e w1 ⟨rfl, hk1⟩; have H1 := Lib.hid hk1; clear hk1)
  all_goals try (exfalso; omega)
  all_goals
    refine (HJ.out 0 (by omega) (by omega) _).mono ?_
    rintro e w2 ⟨rfl, hk2⟩
    have H2 := Lib.hid (H1.out.trans hk2)
    clear hk2
    go_wp2
    go_ret
    exact ⟨by simp, H2.out⟩

set_option maxHeartbeats 1000000 in
theorem crcLong_bad4 (a b c : Nat) (m n : Int) (W : World) (ha' : a < 4294967296) (hb' : b < 4294967296) (_hm1 : -9223372036854775808 ≤ m) (hm : 1 ≤ m) (c1 : decide (m < 1) = false) (c2 : decide (n < 1) = false) (c3 : decide (2305843009213693952 < m) = false) (c4 : decide (2305843009213693952 < n) = true) (HN : Nibs W) :
    Calls Tryd.prog 6 #[.int .u32 a, .int .u32 b, .int .u32 c, .int .i64 m, .int .i64 n] W fun e w' => e = .returned (.bool true) ∧ Kept (fun _ => False) W w' := by
  have HA := Lib.hid (awake_any W HN)
  clear HN
  have hJ : ∀ x : Int, x ≤ 0 → -9223372036854775808 ≤ x → ∀ w, Calls Tryd.prog 13 #[.int .u32 a, .int .u32 b, .int .i64 x] w fun e w' => e = .returned (.int .u32 (a : Int)) ∧ Kept (fun _ => False) w w' := by
    intro x hx hx2 w
    have h := join_any a b x ha' hb' hx2 (by omega) w
    have e : joinN a b x = a := by unfold joinN; rw [if_pos (by omega)]
    rw [e] at h; exact h
  have HJ := Lib.hid hJ
  clear hJ
  go_enter Tryd.func6, Tryd.ntmps6
  go_wp2_with (go_at_call 8; refine HA.out.mono ?_; rintro e w1 ⟨rfl, hk1⟩; have H1 := Lib.hid hk1; clear hk1)
  all_goals try (exfalso; omega)
  all_goals
    refine (HJ.out 0 (by omega) (by omega) _).mono ?_
    rintro e w2 ⟨rfl, hk2⟩
    have H2 := Lib.hid (H1.out.trans hk2)
    clear hk2
    go_wp2
    go_ret
    exact ⟨by simp, H2.out⟩


theorem crcLong_walk (a0 b0 c0 m n : Int) (W : World) (ha : 0 ≤ a0 ∧ a0 ≤ 4294967295) (hb : 0 ≤ b0 ∧ b0 ≤ 4294967295) (hc : 0 ≤ c0 ∧ c0 ≤ 4294967295) (hm : -9223372036854775808 ≤ m ∧ m ≤ 9223372036854775807) (_hn : -9223372036854775808 ≤ n ∧ n ≤ 9223372036854775807) (HN : Nibs W) :
    Calls Tryd.prog 6 #[.int .u32 a0, .int .u32 b0, .int .u32 c0, .int .i64 m, .int .i64 n] W fun e w' => e = .returned (.bool true) ∧ Kept (fun _ => False) W w' := by
  obtain ⟨a, rfl⟩ : ∃ a : Nat, a0 = a := ⟨a0.toNat, by omega⟩
  obtain ⟨b, rfl⟩ : ∃ b : Nat, b0 = b := ⟨b0.toNat, by omega⟩
  obtain ⟨c, rfl⟩ : ∃ c : Nat, c0 = c := ⟨c0.toNat, by omega⟩
  by_cases h1 : m < 1
  · exact crcLong_bad1 a b c m n W (by omega) (by omega) hm.1 (decide_eq_true h1) HN
  by_cases h2 : n < 1
  · exact crcLong_bad2 a b c m n W (by omega) (by omega) hm.1 (by omega) (decide_eq_false h1) (decide_eq_true h2) HN
  by_cases h3 : 2305843009213693952 < m
  · exact crcLong_bad3 a b c m n W (by omega) (by omega) hm.1 (by omega) (decide_eq_false h1) (decide_eq_false h2) (decide_eq_true h3) HN
  by_cases h4 : 2305843009213693952 < n
  · exact crcLong_bad4 a b c m n W (by omega) (by omega) hm.1 (by omega) (decide_eq_false h1) (decide_eq_false h2) (decide_eq_false h3) (decide_eq_true h4) HN
  exact crcLong_good a b c m n W (by omega) (by omega) (by omega) (by omega) (by omega) (by omega) (by omega) HN
end Go.Proofs.YtanhdjdojeoodaaDoor
