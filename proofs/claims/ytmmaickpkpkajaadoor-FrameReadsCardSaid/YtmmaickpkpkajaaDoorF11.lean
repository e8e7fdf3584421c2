/- The walk of 'FrameTells', all arms. -/
import Derived.Test.YtmmaickpkpkajaaDoorF10
namespace Go.Proofs.YtmmaickpkpkajaaDoor
open Go.RowKit
attribute [local go_sem ↓] Go.wp_at_zero Go.wp_at_succ

theorem IsRow.row8 {w : World} {a : Option Addr} {len cap : Nat} {zs : List Int} (h : IsRow .u8 w a len cap zs) : ∃ l : List Nat, l.length = len ∧ Row8 w (.slice a l.length cap) l ∧ len ≤ maxLen := by
  rcases h with ⟨rfl, rfl, rfl, rfl⟩ | ⟨x, rfl, hl, hm, hz, hc, hw⟩
  · exact ⟨[], rfl, ⟨none, 0, rfl, by simp, fun j hj => absurd hj (by simp)⟩, by simp [maxLen]⟩
  · have hlen : ((zs.take len).map Int.toNat).length = len := by rw [List.length_map, List.length_take]; omega
    refine ⟨(zs.take len).map Int.toNat, hlen, ⟨some x, cap, rfl, ?_, ?_⟩, by omega⟩
    · intro y hy
      obtain ⟨z, hz2, rfl⟩ := List.mem_map.1 hy
      have := bd_u8 (hw z (List.mem_of_mem_take hz2))
      omega
    · intro j hj
      rw [hlen] at hj
      refine ⟨x, rfl, ?_⟩
      rw [hc j (by omega)]
      have hjz : j < zs.length := by omega
      have hb := bd_u8 (hw zs[j] (List.getElem_mem hjz))
      have e : ((((zs.take len).map Int.toNat).getD j 0 : Nat) : Int) = zs.getD j 0 := by
        simp only [List.getD_eq_getElem?_getD, List.getElem?_map, List.getElem?_take, hj, if_true, List.getElem?_eq_getElem hjz, Option.map_some, Option.getD_some]
        omega
      rw [e]

set_option maxHeartbeats 1000000 in
theorem frameTells_paybig (ao bo : Option Addr) (c d : Nat) (l r : List Nat) (k b : Int) (W : World) (HN : Nibs W) (c1 : decide ((3000 : Int) < (l.length : Int)) = true) :
    Calls Tryd.prog 7 #[.slice ao l.length c, .int .i64 k, .int .u8 b, .slice bo r.length d] W fun e w' => e = .returned (.bool true) ∧ Kept (fun _ => False) W w' := by
  have HA := Lib.hid (awake_any W HN)
  clear HN
  go_enter Tryd.func7, Tryd.ntmps7
  go_wp2_with (go_at_call 8; refine HA.out.mono ?_; rintro e w1 ⟨rfl, hk1⟩; have H1 := Lib.hid hk1; clear hk1)
  go_ret
  exact ⟨rfl, H1.out⟩

set_option maxHeartbeats 1000000 in
theorem frameTells_behbig (ao bo : Option Addr) (c d : Nat) (l r : List Nat) (k b : Int) (W : World) (HN : Nibs W) (c1 : decide ((3000 : Int) < (l.length : Int)) = false) (c2 : decide ((3000 : Int) < (r.length : Int)) = true) :
    Calls Tryd.prog 7 #[.slice ao l.length c, .int .i64 k, .int .u8 b, .slice bo r.length d] W fun e w' => e = .returned (.bool true) ∧ Kept (fun _ => False) W w' := by
  have HA := Lib.hid (awake_any W HN)
  clear HN
  go_enter Tryd.func7, Tryd.ntmps7
  go_wp2_with (go_at_call 8; refine HA.out.mono ?_; rintro e w1 ⟨rfl, hk1⟩; have H1 := Lib.hid hk1; clear hk1)
  go_ret
  exact ⟨rfl, H1.out⟩

set_option maxHeartbeats 1000000 in
theorem frameTells_low (ao bo : Option Addr) (c d : Nat) (l r : List Nat) (k b : Int) (W : World) (HB : Row8 W (.slice ao l.length c) l) (HN : Nibs W) (c1 : decide ((3000 : Int) < (l.length : Int)) = false) (c2 : decide ((3000 : Int) < (r.length : Int)) = false) (c3 : decide (k < 5) = true) :
    Calls Tryd.prog 7 #[.slice ao l.length c, .int .i64 k, .int .u8 b, .slice bo r.length d] W fun e w' => e = .returned (.bool true) ∧ Kept (fun _ => False) W w' := by
  have HA := Lib.hid (awake_any W HN)
  obtain ⟨N9, hN9⟩ : ∃ N9, N9 = 9 + l.length := ⟨_, rfl⟩
  skip
  have hl : ¬ (3000 : Int) < (l.length : Int) := of_decide_eq_false c1
  have HW := Lib.hid (fun w h => wrap_at (.slice ao l.length c) l (by omega) N9 hN9 W w h HB HN)
  clear HB HN hN9 hl
  go_enter Tryd.func7, Tryd.ntmps7
  go_wp2_with (first
    | (go_at_call 8; refine HA.out.mono ?_; rintro e w1 ⟨rfl, hk1⟩; have H1 := Lib.hid hk1; clear hk1)
    | (go_at_call 10; refine (HW.out _ H1.out).mono ?_; intro e w2 h1; obtain ⟨g, cap, rfl, ho, hk⟩ := h1; have HK := Lib.hid hk; clear ho hk))
  go_ret
  exact ⟨rfl, HK.out⟩

set_option maxHeartbeats 1000000 in
theorem frameTells_high (ao bo : Option Addr) (c d : Nat) (l r : List Nat) (k b : Int) (W : World) (HB : Row8 W (.slice ao l.length c) l) (HN : Nibs W) (c1 : decide ((3000 : Int) < (l.length : Int)) = false) (c2 : decide ((3000 : Int) < (r.length : Int)) = false) (c3 : decide (k < 5) = false) (c4 : decide (((9 + l.length : Nat) : Int) ≤ k) = true) :
    Calls Tryd.prog 7 #[.slice ao l.length c, .int .i64 k, .int .u8 b, .slice bo r.length d] W fun e w' => e = .returned (.bool true) ∧ Kept (fun _ => False) W w' := by
  have HA := Lib.hid (awake_any W HN)
  obtain ⟨N9, hN9⟩ : ∃ N9, N9 = 9 + l.length := ⟨_, rfl⟩
  rw [← hN9] at c4
  have hl : ¬ (3000 : Int) < (l.length : Int) := of_decide_eq_false c1
  have HW := Lib.hid (fun w h => wrap_at (.slice ao l.length c) l (by omega) N9 hN9 W w h HB HN)
  clear HB HN hN9 hl
  go_enter Tryd.func7, Tryd.ntmps7
  go_wp2_with (first
    | (go_at_call 8; refine HA.out.mono ?_; rintro e w1 ⟨rfl, hk1⟩; have H1 := Lib.hid hk1; clear hk1)
    | (go_at_call 10; refine (HW.out _ H1.out).mono ?_; intro e w2 h1; obtain ⟨g, cap, rfl, ho, hk⟩ := h1; have HK := Lib.hid hk; clear ho hk))
  go_ret
  exact ⟨rfl, HK.out⟩

set_option maxHeartbeats 1000000 in
theorem frameTells_zero (ao bo : Option Addr) (c d : Nat) (l r : List Nat) (k b : Int) (W : World) (HB : Row8 W (.slice ao l.length c) l) (HN : Nibs W) (c1 : decide ((3000 : Int) < (l.length : Int)) = false) (c2 : decide ((3000 : Int) < (r.length : Int)) = false) (c3 : decide (k < 5) = false) (c4 : decide (((9 + l.length : Nat) : Int) ≤ k) = false) (c5 : (b == 0) = true) :
    Calls Tryd.prog 7 #[.slice ao l.length c, .int .i64 k, .int .u8 b, .slice bo r.length d] W fun e w' => e = .returned (.bool true) ∧ Kept (fun _ => False) W w' := by
  have HA := Lib.hid (awake_any W HN)
  obtain ⟨N9, hN9⟩ : ∃ N9, N9 = 9 + l.length := ⟨_, rfl⟩
  rw [← hN9] at c4
  have hl : ¬ (3000 : Int) < (l.length : Int) := of_decide_eq_false c1
  have HW := Lib.hid (fun w h => wrap_at (.slice ao l.length c) l (by omega) N9 hN9 W w h HB HN)
  clear HB HN hN9 hl
  go_enter Tryd.func7, Tryd.ntmps7
  go_wp2_with (first
    | (go_at_call 8; refine HA.out.mono ?_; rintro e w1 ⟨rfl, hk1⟩; have H1 := Lib.hid hk1; clear hk1)
    | (go_at_call 10; refine (HW.out _ H1.out).mono ?_; intro e w2 h1; obtain ⟨g, cap, rfl, ho, hk⟩ := h1; have HK := Lib.hid hk; clear ho hk))
  go_ret
  exact ⟨rfl, HK.out⟩

theorem frameTells_walk (ao : Option Addr) (len cap : Nat) (zs : List Int) (k b : Int) (bo : Option Addr) (len2 cap2 : Nat) (ys : List Int) (W : World) (hrow : IsRow .u8 W ao len cap zs) (_hk : -9223372036854775808 ≤ k ∧ k ≤ 9223372036854775807) (hb : 0 ≤ b ∧ b ≤ 255) (hrow2 : IsRow .u8 W bo len2 cap2 ys) (HN : Nibs W) :
    Calls Tryd.prog 7 #[.slice ao len cap, .int .i64 k, .int .u8 b, .slice bo len2 cap2] W fun e w' => e = .returned (.bool true) ∧ Kept (fun _ => False) W w' := by
  obtain ⟨l, rfl, HB, _⟩ := hrow.row8
  obtain ⟨r, rfl, HR, _⟩ := hrow2.row8
  by_cases h1 : (3000 : Int) < (l.length : Int)
  · exact frameTells_paybig ao bo cap cap2 l r k b W HN (decide_eq_true h1)
  by_cases h2 : (3000 : Int) < (r.length : Int)
  · exact frameTells_behbig ao bo cap cap2 l r k b W HN (decide_eq_false h1) (decide_eq_true h2)
  by_cases h3 : k < 5
  · exact frameTells_low ao bo cap cap2 l r k b W HB HN (decide_eq_false h1) (decide_eq_false h2) (decide_eq_true h3)
  by_cases h4 : ((9 + l.length : Nat) : Int) ≤ k
  · exact frameTells_high ao bo cap cap2 l r k b W HB HN (decide_eq_false h1) (decide_eq_false h2) (decide_eq_false h3) (decide_eq_true h4)
  by_cases h5 : b = 0
  · exact frameTells_zero ao bo cap cap2 l r k b W HB HN (decide_eq_false h1) (decide_eq_false h2) (decide_eq_false h3) (decide_eq_false h4) (beq_iff_eq.2 h5)
  obtain ⟨n, rfl⟩ : ∃ n : Nat, k = n := ⟨k.toNat, by omega⟩
  obtain ⟨m, rfl⟩ : ∃ m : Nat, b = m := ⟨b.toNat, by omega⟩
  exact frameTells_good ao bo cap cap2 l r n m W HB HR HN (by omega) (by omega) (by omega) (by omega) (by omega) (by omega)
end Go.Proofs.YtmmaickpkpkajaaDoor
