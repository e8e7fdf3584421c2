/- The walk of 'FrameWraps'. -/
import Derived.Test.YtmmaickpkpkajaaDoorF14
import Derived.Test.YtmmaickpkpkajaaDoorF11
namespace Go.Proofs.YtmmaickpkpkajaaDoor
open Go.RowKit
attribute [local go_sem ↓] Go.wp_at_zero Go.wp_at_succ

theorem ref_conv {w : World} {l : List Nat} {v : Value} (h : Row8 w v (frameL l)) : (convert 22 9 v).run Tryd.prog w = .ok (.string (strN (frameL l))) w := conv8 h

set_option maxHeartbeats 1000000 in
theorem wraps_neg_big (ao : Option Addr) (c n : Nat) (z : Int) (W : World) (HN : Nibs W) (hz : -9223372036854775808 ≤ z ∧ z ≤ 9223372036854775807) (z1 : decide (0 ≤ z) = false) (c1 : decide ((3000 : Int) < (n : Int)) = true) :
    Calls Tryd.prog 3 #[.slice ao n c, .int .i64 z] W fun e w' => e = .returned (.bool true) ∧ Kept (fun _ => False) W w' := by
  have HA := Lib.hid (awake_any W HN)
  have HZ := fun w => size_any z hz.1 hz.2 w
  rw [show sizeN z = 0 by unfold sizeN; rw [if_pos (Or.inl (by have := of_decide_eq_false z1; omega))]] at HZ
  have HZ' := Lib.hid HZ
  clear HZ HN
  go_enter Tryd.func3, Tryd.ntmps3
  go_wp2_with (first
    | (go_at_call 8; refine HA.out.mono ?_; rintro e w1 ⟨rfl, hk1⟩; have H1 := Lib.hid hk1; clear hk1)
    | (go_at_call 9; refine (HZ'.out _).mono ?_; rintro e w' ⟨rfl, rfl⟩))
  go_ret
  exact ⟨rfl, H1.out⟩

set_option maxHeartbeats 2000000 in
theorem wraps_neg_small (ao : Option Addr) (c : Nat) (l : List Nat) (z : Int) (W : World) (HB : Row8 W (.slice ao l.length c) l) (HN : Nibs W) (hz : -9223372036854775808 ≤ z ∧ z ≤ 9223372036854775807) (z1 : decide (0 ≤ z) = false) (c1 : decide ((3000 : Int) < (l.length : Int)) = false) :
    Calls Tryd.prog 3 #[.slice ao l.length c, .int .i64 z] W fun e w' => e = .returned (.bool true) ∧ Kept (fun _ => False) W w' := by
  have HA := Lib.hid (awake_any W HN)
  have HZ := fun w => size_any z hz.1 hz.2 w
  rw [show sizeN z = 0 by unfold sizeN; rw [if_pos (Or.inl (by have := of_decide_eq_false z1; omega))]] at HZ
  have HZ' := Lib.hid HZ
  have hl : ¬ (3000 : Int) < (l.length : Int) := of_decide_eq_false c1
  have HB' := Lib.hid HB
  have HN' := Lib.hid HN
  obtain ⟨N9, hN9⟩ : ∃ N, N = 9 + l.length := ⟨_, rfl⟩
  have HW := Lib.hid (fun w h => wrap_at (.slice ao l.length c) l (by omega) N9 hN9 W w h HB HN)
  have HRW : Hid (∀ w, Kept (fun _ => False) W w → Calls Tryd.prog 11 #[.slice ao l.length c] w fun e w' => ∃ g c', e = .returned (.tuple #[.slice (some ⟨g, 0, none⟩) N9 c', .int .i64 0]) ∧ Row8 w' (.slice (some ⟨g, 0, none⟩) N9 c') (frameL l) ∧ Kept (fun _ => False) w w') := Lib.hid fun w hk => by
    refine (refWrap_any ao c l (by omega) w (HB.kept hk)).mono ?_
    rintro e w' ⟨c', g, rfl, h1, h2⟩
    rw [← hN9] at h1 ⊢
    exact ⟨g, c', rfl, h1, h2⟩
  have hS := fun w => size_any (l.length : Int) (by omega) (by omega) w
  rw [show sizeN (l.length : Int) = (N9 : Int) by unfold sizeN; rw [if_neg (by omega), hN9]; omega] at hS
  have HS := Lib.hid hS
  have HFL := Lib.hid (frameL_lt l HB.lt)
  have en : ((N9 : Int) == (N9 : Int)) = true := beq_iff_eq.2 rfl
  clear HZ HN HB hN9 hl hS
  go_enter Tryd.func3, Tryd.ntmps3
  go_wp2_with (first
    | (go_at_call 8; refine HA.out.mono ?_; rintro e w1 ⟨rfl, hk1⟩; have H1 := Lib.hid hk1; clear hk1)
    | (go_at_call_of 9 z; refine (HZ'.out _).mono ?_; rintro e w' ⟨rfl, rfl⟩)
    | (go_at_call_of 9 l; refine (HS.out _).mono ?_; rintro e w' ⟨rfl, rfl⟩)
    | (go_at_call 10; refine (HW.out _ H1.out).mono ?_; intro e w2 h1; obtain ⟨g, cap, rfl, ho, hk⟩ := h1; have HO := Lib.hid ho; have HK := Lib.hid hk; clear ho hk)
    | (go_at_call 11; refine (HRW.out _ HK.out).mono ?_; intro e w3 h1; obtain ⟨g3, c3, rfl, hr3, hk3⟩ := h1; have qa := ref_conv hr3; have qb := ref_conv ((row8_own HFL.out HO.out).kept hk3); have HK3 := Lib.hid hk3; clear hr3 hk3))
  go_ret
  exact ⟨rfl, HK.out.trans HK3.out⟩

set_option maxHeartbeats 1000000 in
theorem wraps_over_big (ao : Option Addr) (c n : Nat) (z : Int) (W : World) (HN : Nibs W) (hz : -9223372036854775808 ≤ z ∧ z ≤ 9223372036854775807) (z1 : decide (0 ≤ z) = true) (z2 : decide (z ≤ 65536) = false) (c1 : decide ((3000 : Int) < (n : Int)) = true) :
    Calls Tryd.prog 3 #[.slice ao n c, .int .i64 z] W fun e w' => e = .returned (.bool true) ∧ Kept (fun _ => False) W w' := by
  have HA := Lib.hid (awake_any W HN)
  have HZ := fun w => size_any z hz.1 hz.2 w
  rw [show sizeN z = 0 by unfold sizeN; rw [if_pos (Or.inr (by have := of_decide_eq_false z2; omega))]] at HZ
  have HZ' := Lib.hid HZ
  clear HZ HN
  go_enter Tryd.func3, Tryd.ntmps3
  go_wp2_with (first
    | (go_at_call 8; refine HA.out.mono ?_; rintro e w1 ⟨rfl, hk1⟩; have H1 := Lib.hid hk1; clear hk1)
    | (go_at_call 9; refine (HZ'.out _).mono ?_; rintro e w' ⟨rfl, rfl⟩))
  go_ret
  exact ⟨rfl, H1.out⟩

set_option maxHeartbeats 2000000 in
theorem wraps_over_small (ao : Option Addr) (c : Nat) (l : List Nat) (z : Int) (W : World) (HB : Row8 W (.slice ao l.length c) l) (HN : Nibs W) (hz : -9223372036854775808 ≤ z ∧ z ≤ 9223372036854775807) (z1 : decide (0 ≤ z) = true) (z2 : decide (z ≤ 65536) = false) (c1 : decide ((3000 : Int) < (l.length : Int)) = false) :
    Calls Tryd.prog 3 #[.slice ao l.length c, .int .i64 z] W fun e w' => e = .returned (.bool true) ∧ Kept (fun _ => False) W w' := by
  have HA := Lib.hid (awake_any W HN)
  have HZ := fun w => size_any z hz.1 hz.2 w
  rw [show sizeN z = 0 by unfold sizeN; rw [if_pos (Or.inr (by have := of_decide_eq_false z2; omega))]] at HZ
  have HZ' := Lib.hid HZ
  have hl : ¬ (3000 : Int) < (l.length : Int) := of_decide_eq_false c1
  have HB' := Lib.hid HB
  have HN' := Lib.hid HN
  obtain ⟨N9, hN9⟩ : ∃ N, N = 9 + l.length := ⟨_, rfl⟩
  have HW := Lib.hid (fun w h => wrap_at (.slice ao l.length c) l (by omega) N9 hN9 W w h HB HN)
  have HRW : Hid (∀ w, Kept (fun _ => False) W w → Calls Tryd.prog 11 #[.slice ao l.length c] w fun e w' => ∃ g c', e = .returned (.tuple #[.slice (some ⟨g, 0, none⟩) N9 c', .int .i64 0]) ∧ Row8 w' (.slice (some ⟨g, 0, none⟩) N9 c') (frameL l) ∧ Kept (fun _ => False) w w') := Lib.hid fun w hk => by
    refine (refWrap_any ao c l (by omega) w (HB.kept hk)).mono ?_
    rintro e w' ⟨c', g, rfl, h1, h2⟩
    rw [← hN9] at h1 ⊢
    exact ⟨g, c', rfl, h1, h2⟩
  have hS := fun w => size_any (l.length : Int) (by omega) (by omega) w
  rw [show sizeN (l.length : Int) = (N9 : Int) by unfold sizeN; rw [if_neg (by omega), hN9]; omega] at hS
  have HS := Lib.hid hS
  have HFL := Lib.hid (frameL_lt l HB.lt)
  have en : ((N9 : Int) == (N9 : Int)) = true := beq_iff_eq.2 rfl
  clear HZ HN HB hN9 hl hS
  go_enter Tryd.func3, Tryd.ntmps3
  go_wp2_with (first
    | (go_at_call 8; refine HA.out.mono ?_; rintro e w1 ⟨rfl, hk1⟩; have H1 := Lib.hid hk1; clear hk1)
    | (go_at_call_of 9 z; refine (HZ'.out _).mono ?_; rintro e w' ⟨rfl, rfl⟩)
    | (go_at_call_of 9 l; refine (HS.out _).mono ?_; rintro e w' ⟨rfl, rfl⟩)
    | (go_at_call 10; refine (HW.out _ H1.out).mono ?_; intro e w2 h1; obtain ⟨g, cap, rfl, ho, hk⟩ := h1; have HO := Lib.hid ho; have HK := Lib.hid hk; clear ho hk)
    | (go_at_call 11; refine (HRW.out _ HK.out).mono ?_; intro e w3 h1; obtain ⟨g3, c3, rfl, hr3, hk3⟩ := h1; have qa := ref_conv hr3; have qb := ref_conv ((row8_own HFL.out HO.out).kept hk3); have HK3 := Lib.hid hk3; clear hr3 hk3))
  go_ret
  exact ⟨rfl, HK.out.trans HK3.out⟩

set_option maxHeartbeats 1000000 in
theorem wraps_in_big (ao : Option Addr) (c n : Nat) (z : Int) (W : World) (HN : Nibs W) (hz : -9223372036854775808 ≤ z ∧ z ≤ 9223372036854775807) (z1 : decide (0 ≤ z) = true) (z2 : decide (z ≤ 65536) = true) (c1 : decide ((3000 : Int) < (n : Int)) = true) :
    Calls Tryd.prog 3 #[.slice ao n c, .int .i64 z] W fun e w' => e = .returned (.bool true) ∧ Kept (fun _ => False) W w' := by
  have HA := Lib.hid (awake_any W HN)
  have HZ := fun w => size_any z hz.1 hz.2 w
  rw [show sizeN z = (9 + z) by unfold sizeN; rw [if_neg (by have := of_decide_eq_true z1; have := of_decide_eq_true z2; omega)]] at HZ
  have e9 : IntKind.i64.wrap (9 + z) = 9 + z := by have := of_decide_eq_true z1; have := of_decide_eq_true z2; exact IntWalk.i64_in _ ⟨by omega, by omega⟩
  have HZ' := Lib.hid HZ
  clear HZ HN
  go_enter Tryd.func3, Tryd.ntmps3
  go_wp2_with (first
    | (go_at_call 8; refine HA.out.mono ?_; rintro e w1 ⟨rfl, hk1⟩; have H1 := Lib.hid hk1; clear hk1)
    | (go_at_call 9; refine (HZ'.out _).mono ?_; rintro e w' ⟨rfl, rfl⟩))
  go_ret
  exact ⟨rfl, H1.out⟩

set_option maxHeartbeats 2000000 in
theorem wraps_in_small (ao : Option Addr) (c : Nat) (l : List Nat) (z : Int) (W : World) (HB : Row8 W (.slice ao l.length c) l) (HN : Nibs W) (hz : -9223372036854775808 ≤ z ∧ z ≤ 9223372036854775807) (z1 : decide (0 ≤ z) = true) (z2 : decide (z ≤ 65536) = true) (c1 : decide ((3000 : Int) < (l.length : Int)) = false) :
    Calls Tryd.prog 3 #[.slice ao l.length c, .int .i64 z] W fun e w' => e = .returned (.bool true) ∧ Kept (fun _ => False) W w' := by
  have HA := Lib.hid (awake_any W HN)
  have HZ := fun w => size_any z hz.1 hz.2 w
  rw [show sizeN z = (9 + z) by unfold sizeN; rw [if_neg (by have := of_decide_eq_true z1; have := of_decide_eq_true z2; omega)]] at HZ
  have e9 : IntKind.i64.wrap (9 + z) = 9 + z := by have := of_decide_eq_true z1; have := of_decide_eq_true z2; exact IntWalk.i64_in _ ⟨by omega, by omega⟩
  have HZ' := Lib.hid HZ
  have hl : ¬ (3000 : Int) < (l.length : Int) := of_decide_eq_false c1
  have HB' := Lib.hid HB
  have HN' := Lib.hid HN
  obtain ⟨N9, hN9⟩ : ∃ N, N = 9 + l.length := ⟨_, rfl⟩
  have HW := Lib.hid (fun w h => wrap_at (.slice ao l.length c) l (by omega) N9 hN9 W w h HB HN)
  have HRW : Hid (∀ w, Kept (fun _ => False) W w → Calls Tryd.prog 11 #[.slice ao l.length c] w fun e w' => ∃ g c', e = .returned (.tuple #[.slice (some ⟨g, 0, none⟩) N9 c', .int .i64 0]) ∧ Row8 w' (.slice (some ⟨g, 0, none⟩) N9 c') (frameL l) ∧ Kept (fun _ => False) w w') := Lib.hid fun w hk => by
    refine (refWrap_any ao c l (by omega) w (HB.kept hk)).mono ?_
    rintro e w' ⟨c', g, rfl, h1, h2⟩
    rw [← hN9] at h1 ⊢
    exact ⟨g, c', rfl, h1, h2⟩
  have hS := fun w => size_any (l.length : Int) (by omega) (by omega) w
  rw [show sizeN (l.length : Int) = (N9 : Int) by unfold sizeN; rw [if_neg (by omega), hN9]; omega] at hS
  have HS := Lib.hid hS
  have HFL := Lib.hid (frameL_lt l HB.lt)
  have en : ((N9 : Int) == (N9 : Int)) = true := beq_iff_eq.2 rfl
  clear HZ HN HB hN9 hl hS
  go_enter Tryd.func3, Tryd.ntmps3
  go_wp2_with (first
    | (go_at_call 8; refine HA.out.mono ?_; rintro e w1 ⟨rfl, hk1⟩; have H1 := Lib.hid hk1; clear hk1)
    | (go_at_call_of 9 z; refine (HZ'.out _).mono ?_; rintro e w' ⟨rfl, rfl⟩)
    | (go_at_call_of 9 l; refine (HS.out _).mono ?_; rintro e w' ⟨rfl, rfl⟩)
    | (go_at_call 10; refine (HW.out _ H1.out).mono ?_; intro e w2 h1; obtain ⟨g, cap, rfl, ho, hk⟩ := h1; have HO := Lib.hid ho; have HK := Lib.hid hk; clear ho hk)
    | (go_at_call 11; refine (HRW.out _ HK.out).mono ?_; intro e w3 h1; obtain ⟨g3, c3, rfl, hr3, hk3⟩ := h1; have qa := ref_conv hr3; have qb := ref_conv ((row8_own HFL.out HO.out).kept hk3); have HK3 := Lib.hid hk3; clear hr3 hk3))
  go_ret
  exact ⟨rfl, HK.out.trans HK3.out⟩

theorem frameWraps_walk (ao : Option Addr) (len cap : Nat) (zs : List Int) (z : Int) (W : World) (hrow : IsRow .u8 W ao len cap zs) (hz : -9223372036854775808 ≤ z ∧ z ≤ 9223372036854775807) (HN : Nibs W) :
    Calls Tryd.prog 3 #[.slice ao len cap, .int .i64 z] W fun e w' => e = .returned (.bool true) ∧ Kept (fun _ => False) W w' := by
  obtain ⟨l, rfl, HB, _⟩ := hrow.row8
  by_cases h0 : 0 ≤ z
  · by_cases h1 : z ≤ 65536
    · by_cases h2 : (3000 : Int) < (l.length : Int)
      · exact wraps_in_big ao cap l.length z W HN hz (decide_eq_true h0) (decide_eq_true h1) (decide_eq_true h2)
      · exact wraps_in_small ao cap l z W HB HN hz (decide_eq_true h0) (decide_eq_true h1) (decide_eq_false h2)
    · by_cases h2 : (3000 : Int) < (l.length : Int)
      · exact wraps_over_big ao cap l.length z W HN hz (decide_eq_true h0) (decide_eq_false h1) (decide_eq_true h2)
      · exact wraps_over_small ao cap l z W HB HN hz (decide_eq_true h0) (decide_eq_false h1) (decide_eq_false h2)
  · by_cases h2 : (3000 : Int) < (l.length : Int)
    · exact wraps_neg_big ao cap l.length z W HN hz (decide_eq_false h0) (decide_eq_true h2)
    · exact wraps_neg_small ao cap l z W HB HN hz (decide_eq_false h0) (decide_eq_false h2)
end Go.Proofs.YtmmaickpkpkajaaDoor
