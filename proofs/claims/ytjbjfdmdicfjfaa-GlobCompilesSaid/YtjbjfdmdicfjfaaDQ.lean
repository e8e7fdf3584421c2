/- Layer 32: the walk of GlobCompiles. -/
import Derived.Test.YtjbjfdmdicfjfaaDR
import Derived.Test.YtjbjfdmdicfjfaaDE
namespace Go.Proofs.Ytjbjfdmdicfjfaa
open Go.RowKit
attribute [local go_sem ↓] Go.wp_at_zero Go.wp_at_succ

set_option maxHeartbeats 8000000 in
set_option maxRecDepth 100000 in
theorem globCompiles_walk (p : ByteArray) (w : World) (hp : p.size ≤ 9223372036854775807) :
    Calls Try.prog 3 #[.string p] w fun e w' => e = .returned (.bool true) ∧ Kept (fun _ => False) w w' := by
  have HA := Lib.hid (awake32_any w)
  by_cases h1 : 200 < p.size
  · have q1 : (200 : Int) < (p.size : Int) := by omega
    have q1' : decide (200 < p.size) = true := decide_eq_true h1
    clear hp h1
    go_enter Try.func3, Try.ntmps3
    go_wp2_with fail
    refine HA.out.mono ?_
    rintro e w1 ⟨rfl, k1⟩
    go_wp2
    go_ret
    exact ⟨rfl, k1⟩
  have q1 : ¬ (200 : Int) < (p.size : Int) := by omega
  have q1' : decide (200 < p.size) = false := decide_eq_false h1
  have C1 := Lib.hid (fun w => compile_any p w (by omega))
  have C2 := Lib.hid (fun w => rcompile_any p w (by omega))
  clear hp h1
  go_enter Try.func3, Try.ntmps3
  go_wp2_with fail
  refine HA.out.mono ?_
  rintro e w1 ⟨rfl, k1⟩
  have K1 := Lib.hid k1
  clear k1
  cases hc : compS p with
  | bad x y =>
    rw [hc] at C1 C2
    clear hc
    go_wp2_with fail
    refine (C1.out _).mono ?_
    rintro e w2 ⟨k2, rfl, hy⟩
    have K2 := Lib.hid (K1.out.trans k2)
    clear k2
    have hy0 : ((y : Int) != 0) = true := bneT (by omega)
    go_wp2_with fail
    refine (C2.out _).mono ?_
    rintro e w3 ⟨k3, rfl, _⟩
    have K3 := Lib.hid (K2.out.trans k3)
    have hyy : ((y : Int) != (y : Int)) = false := bneF rfl
    have hxx : ((x : Int) == (x : Int)) = true := beqT rfl
    clear k3 hy
    go_wp2
    go_ret
    exact ⟨rfl, K3.out.alloc _⟩
  | good ps =>
    rw [hc] at C1 C2
    clear hc
    go_wp2_with fail
    refine (C1.out _).mono ?_
    rintro e w2 ⟨k2, gb, L, hL, hG, _, rfl⟩
    have K2 := Lib.hid (K1.out.trans k2)
    have HL := Lib.hid hL
    have HG := Lib.hid hG
    clear k2 hL hG
    go_wp2_with fail
    refine (C2.out _).mono ?_
    rintro e w3 ⟨k3, a, cp, R, hR, hRl, hRs, rfl⟩
    have K3 := Lib.hid (K2.out.trans k3)
    obtain ⟨w4, hw4⟩ : ∃ w4, w4 = w3.alloc (.cells #[.slice a R.length cp, .int .i64 0, .int .i64 0] 29) := ⟨_, rfl⟩
    have k4 : Kept (fun _ => False) w3 w4 := by rw [hw4]; exact (Kept.refl _ _).alloc _
    obtain ⟨q8, hq8⟩ : ∃ q, q = w3.heap.size := ⟨_, rfl⟩
    have hb : w4.heap[q8]? = some (.cells #[.slice a R.length cp, .int .i64 0, .int .i64 0] 29 (0, 0)) := by rw [hw4, hq8]; exact heap_alloc_new w3 _
    have y0 : w4.cell? ⟨q8, 0, none⟩ = some (.slice a R.length cp) := by rw [cell_of_row _ _ _ _ _ _ hb]; rfl
    have y2 : w4.cell? ⟨q8, 2, none⟩ = some (.int .i64 0) := by rw [cell_of_row _ _ _ _ _ _ hb]; rfl
    have HP1 := Lib.hid (fun w (k : Kept (fun _ => False) w4 w) => plain_any gb p L w ((HG.out.kept (k3.trans k4)).kept k))
    have HTX := Lib.hid (fun w (k : Kept (fun _ => False) w4 w) => text_any gb p L w ((HG.out.kept (k3.trans k4)).kept k))
    have HP2 := Lib.hid (fun w (k : Kept (fun _ => False) w4 w) => rplainL_any a cp R w ((hRs.kept k4).kept k) hRl)
    rw [HL.out] at HP1
    rw [hR] at HP2
    have K4 := Lib.hid (K3.out.trans k4)
    have HW4 := Lib.hid hw4.symm
    have HQ8 := Lib.hid hq8
    have HB := Lib.hid hb
    clear k3 hRs hR hRl hw4 k4 hq8 hb
    go_upto_region 7 with fail
    rw [HW4.out, ← HQ8.out]
    go_wp2_with fail
    refine (HP1.out _ (Kept.refl _ _)).mono ?_
    rintro e w5 ⟨he, k5⟩
    have y05 : w5.cell? ⟨q8, 0, none⟩ = some (.slice a R.length cp) := k5.cell y0 (fun x => x)
    have K5 := Lib.hid k5
    clear k5 y0 y2
    rcases he with ⟨hb1, rfl⟩ | ⟨hb1, rfl⟩
    · obtain ⟨S, hS⟩ : ∃ S, S = strL (plainT ps) := ⟨_, rfl⟩
      rw [← hS]
      go_wp2_with fail
      refine (HP2.out _ K5.out).mono ?_
      rintro e w6 ⟨he, k6⟩
      have K6 := Lib.hid (K5.out.trans k6)
      rcases he with ⟨_, rfl⟩ | ⟨hb2, _⟩
      · rw [← hS]
        have hpp : (p.toList == p.toList) = true := beq_iff_eq.2 rfl
        have hss : (S.toList == S.toList) = true := beq_iff_eq.2 rfl
        clear k6 hS
        go_wp2_with fail
        refine (HTX.out _ K6.out).mono ?_
        rintro e w7 ⟨rfl, rfl⟩
        go_wp2
        go_ret
        exact ⟨rfl, K4.out.trans K6.out⟩
      · rw [hb1] at hb2; cases hb2
    · go_wp2_with fail
      refine (HP2.out _ K5.out).mono ?_
      rintro e w6 ⟨he, k6⟩
      have K6 := Lib.hid (K5.out.trans k6)
      rcases he with ⟨hb2, _⟩ | ⟨_, rfl⟩
      · rw [hb1] at hb2; cases hb2
      · have hpp : (p.toList == p.toList) = true := beq_iff_eq.2 rfl
        have hss : (ByteArray.empty.toList == ByteArray.empty.toList) = true := beq_iff_eq.2 rfl
        clear k6
        go_wp2_with fail
        refine (HTX.out _ K6.out).mono ?_
        rintro e w7 ⟨rfl, rfl⟩
        go_wp2
        go_ret
        exact ⟨rfl, K4.out.trans K6.out⟩
end Go.Proofs.Ytjbjfdmdicfjfaa
