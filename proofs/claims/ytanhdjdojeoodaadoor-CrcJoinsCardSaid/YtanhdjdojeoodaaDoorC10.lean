/- The walks of 'CrcJoins' and 'CrcLong'. -/
import Derived.Test.YtanhdjdojeoodaaDoorC9
namespace Go.Proofs.YtanhdjdojeoodaaDoor
open Go.RowKit
attribute [local go_sem ↓] Go.wp_at_zero Go.wp_at_succ

set_option maxHeartbeats 1000000 in
theorem crcJoins_walk (a0 b0 n : Int) (W : World) (ha : 0 ≤ a0 ∧ a0 ≤ 4294967295) (hb : 0 ≤ b0 ∧ b0 ≤ 4294967295) (hn : -9223372036854775808 ≤ n ∧ n ≤ 9223372036854775807) (HN : Nibs W) :
    Calls Tryd.prog 5 #[.int .u32 a0, .int .u32 b0, .int .i64 n] W fun e w' => e = .returned (.bool true) ∧ Kept (fun _ => False) W w' := by
  obtain ⟨a, rfl⟩ : ∃ a : Nat, a0 = a := ⟨a0.toNat, by omega⟩
  obtain ⟨b, rfl⟩ : ∃ b : Nat, b0 = b := ⟨b0.toNat, by omega⟩
  have ha' : a < 4294967296 := by omega
  have hb' : b < 4294967296 := by omega
  obtain ⟨hn1, hn2⟩ := hn
  have HA := Lib.hid (awake_any W HN)
  clear HN
  by_cases hbig : n > 3000
  · have hbig' : (3000 : Int) < n := hbig
    go_enter Tryd.func5, Tryd.ntmps5
    go_wp2_with (go_at_call 8; refine HA.out.mono ?_; rintro e w1 ⟨rfl, hk1⟩; have H1 := Lib.hid hk1; clear hk1)
    go_ret
    exact ⟨rfl, H1.out⟩
  · have hsm : n ≤ 3000 := by omega
    go_enter Tryd.func5, Tryd.ntmps5
    go_wp2_with (go_at_call 8; refine HA.out.mono ?_; rintro e w1 ⟨rfl, hk1⟩; have H1 := Lib.hid hk1; clear hk1)
    go_loopw [7, 8] (fun x t wr => ∃ j : Nat, j ≤ n.toNat ∧ x = .int .u32 ((stepsN (8 * j) a : Nat) : Int) ∧ t = .int .i64 j ∧ w1 = wr) (fun _ t _ => n.toNat - (intOf t).toNat)
    case atStart => exact ⟨0, by omega, rfl, rfl, rfl⟩
    case round =>
      obtain ⟨j, hj, rfl, rfl, rfl⟩ := hrel
      by_cases hd : (j : Int) < n
      · have hj0 : (0 : Int) ≤ (j : Int) := by omega
        have hV0 := stepsN_lt (8 * j) a ha'
        obtain ⟨V, hV⟩ : ∃ V, V = stepsN (8 * j) a := ⟨_, rfl⟩
        rw [← hV] at hV0 ⊢
        have HV := Lib.hid hV
        clear hV
        go_wp2
        go_loopw [7, 9] (fun x t wr => ∃ k : Nat, k ≤ 8 ∧ x = .int .u32 ((stepsN k V : Nat) : Int) ∧ t = .int .i64 k ∧ w1 = wr) (fun _ t _ => 8 - (intOf t).toNat)
        case atStart => exact ⟨0, by omega, rfl, rfl, rfl⟩
        case round =>
          obtain ⟨k, hk, rfl, rfl, rfl⟩ := hrel
          by_cases hd2 : k < 8
          · have hk' : (k : Int) < 8 := by omega
            have hk0 : (0 : Int) ≤ (k : Int) := by omega
            have hW0 := stepsN_lt k V hV0
            have HN4 := Lib.hid (stepsN_snoc k V)
            obtain ⟨U, hU⟩ : ∃ U, U = stepsN k V := ⟨_, rfl⟩
            rw [← hU] at hW0 HN4 ⊢
            clear hU
            go_wp2_with (go_at_call 14; refine (refStep_any U hW0 _).mono ?_; rintro e w' ⟨rfl, rfl⟩)
            go_roundw
            case rel => exact ⟨k + 1, hd2, by rw [HN4.out], by go_num, trivial⟩
            case measure => simp [intOf]; omega
          · obtain rfl : k = 8 := by omega
            go_wp2
            go_roundw
            case rel =>
              refine ⟨j + 1, by omega, ?_, by go_num, trivial⟩
              rw [HV.out, ← stepsN_add]; rfl
            case measure => simp [intOf]; omega
      · obtain rfl : j = n.toNat := by omega
        have hX0 := stepsN_lt (8 * n.toNat) a ha'
        by_cases hpos : 0 < n
        · have hJ : joinN a b n = stepsN (8 * n.toNat) a ^^^ b := by unfold joinN; rw [if_neg (by omega)]
          have hxor := xor32 _ b hX0 hb'
          obtain ⟨X, hX⟩ : ∃ X, X = stepsN (8 * n.toNat) a := ⟨_, rfl⟩
          rw [← hX] at hJ hxor ⊢
          clear hX hX0
          rw [← hJ] at hxor
          have HJ := Lib.hid (join_any a b n ha' hb' hn1 hn2 w1)
          obtain ⟨Y, hY⟩ : ∃ Y, Y = joinN a b n := ⟨_, rfl⟩
          rw [← hY] at HJ hxor
          clear hY hJ
          go_wp2_with (go_at_call 13; refine HJ.out.mono ?_; rintro e w2 ⟨rfl, hk2⟩; have H2 := Lib.hid hk2; clear hk2)
          go_ret
          exact ⟨by simp, H1.out.trans H2.out⟩
        · have hJ : joinN a b n = a := by unfold joinN; rw [if_pos (by omega)]
          have h0 : n.toNat = 0 := by omega
          have HJ := Lib.hid (join_any a b n ha' hb' hn1 hn2 w1)
          rw [hJ] at HJ
          rw [h0]
          show Code.wp _ _ _ _ _
          simp only [stepsN]
          clear hJ hX0
          go_wp2_with (go_at_call 13; refine HJ.out.mono ?_; rintro e w2 ⟨rfl, hk2⟩; have H2 := Lib.hid hk2; clear hk2)
          go_ret
          exact ⟨by simp, H1.out.trans H2.out⟩
end Go.Proofs.YtanhdjdojeoodaaDoor
