/- Layer 7: the walk of 'XorSame'. -/
import Derived.Test.YtaagjedkojlbpaaDoorW11
namespace Go.Proofs.YtaagjedkojlbpaaDoor
open Go.RowKit
attribute [local go_sem ↓] Go.wp_at_zero Go.wp_at_succ

set_option maxHeartbeats 4000000 in
set_option maxRecDepth 100000 in
theorem xorSame_walk0 (ao : Option Addr) (ca : Nat) (l : List Nat) (x n : Nat) (W : World) (hv : SlAt W (.slice ao l.length ca) (xvals l)) (hl : l.length ≤ 300) (hb : ∀ x ∈ l, x < 18446744073709551616) (hx : x < 18446744073709551616) (hn : n ≤ 300) (HT : BruTab W) :
    Calls Tryd.prog 9 #[.slice ao l.length ca, .int .u64 (x : Int), .int .i64 (n : Int)] W fun e w' => e = .returned (.bool true) ∧ Kept (fun _ => False) W w' := by
  have HAW := Lib.hid (awake7_any W HT)
  have HTT := Lib.hid HT
  have HCL := Lib.hid fun w' (h : Kept (fun _ => False) W w') => xcost_any _ l w' (hv.kept h (fun _ _ x => x)) (by omega) hb (HT.kept h)
  have HCS := Lib.hid fun w' v (h : Mine W w' 28 v (xvals (List.replicate n x))) => xcost_any v (List.replicate n x) w' h.at_ (by rw [List.length_replicate]; omega) (by intro y hy; rw [List.eq_of_mem_replicate hy]; exact hx) (HT.kept h.kept)
  rw [List.length_replicate, rowX_same] at HCS
  have hc1 := rowX_length hb l.length
  have hc2 := rowX_length1 hb l.length
  obtain ⟨C, hC⟩ : ∃ C, C = (rowX l l.length).length := ⟨_, rfl⟩
  rw [← hC] at hc1 hc2 HCL
  obtain ⟨L, hL⟩ : ∃ L, L = l.length := ⟨_, rfl⟩
  rw [← hL] at hc1 hc2 HCL hl ⊢
  have q1 : ¬ (300 : Int) < (L : Int) := by omega
  have q1b : decide (300 < L) = false := decide_eq_false (by omega)
  have q2 : ¬ (n : Int) < 0 := by omega
  have q3 : ¬ (300 : Int) < (n : Int) := by omega
  have q3b : decide (300 < n) = false := decide_eq_false (by omega)
  have w1 : IntKind.i64.wrap (77 * (L : Int)) = ((77 * L : Nat) : Int) := by rw [IntWalk.i64_in _ ⟨by omega, by omega⟩]; omega
  have w2 : IntKind.i64.wrap (63 + (L : Int)) = ((63 + L : Nat) : Int) := by rw [IntWalk.i64_in _ ⟨by omega, by omega⟩]; omega
  have w3 : IntKind.i64.wrap (63 + (n : Int)) = ((63 + n : Nat) : Int) := by rw [IntWalk.i64_in _ ⟨by omega, by omega⟩]; omega
  obtain ⟨A, hA⟩ : ∃ A, A = 77 * L := ⟨_, rfl⟩
  obtain ⟨B, hB⟩ : ∃ B, B = 63 + L := ⟨_, rfl⟩
  obtain ⟨D, hD⟩ : ∃ D, D = 63 + n := ⟨_, rfl⟩
  rw [← hA] at w1 hc1
  rw [← hB] at w2 hc2
  rw [← hD] at w3 HCS
  have HCC := Lib.hid hc2
  have HCA := Lib.hid (And.intro hc1 hA)
  have p1 : (C : Int) ≤ (A : Int) := by omega
  have p1b : decide (C ≤ A) = true := decide_eq_true hc1
  have HN := Lib.hid hn
  clear hv HT hb hx hc1 hc2 hC hL hl hn hA hB hD
  go_enter Tryd.func9, Tryd.ntmps9
  go_wp2_with fail
  refine HAW.out.mono ?_
  rintro e w0 ⟨rfl, k0⟩
  have K0 := Lib.hid k0
  clear k0
  go_wp2
  go_loopg [7, 8] n (fun g s7 s8 wr => ∃ i : Nat, i ≤ n ∧ g = n - i ∧ s8 = .int .i64 i ∧ Mine W wr 28 s7 (xvals (List.replicate i x)))
  case atStart => exact ⟨0, Nat.zero_le _, rfl, rfl, Mine.nil' _ K0.out⟩
  case round =>
    obtain ⟨i, hil, rfl, rfl, hm⟩ := hrel
    have HM := Lib.hid hm
    obtain ⟨a7, c7, e7⟩ := hm.slice
    subst e7
    rw [xvals_length, List.length_replicate] at HM ⊢
    clear hm
    by_cases hd : i < n
    · have hdi : (i : Int) < (n : Int) := by omega
      have HD := Lib.hid hd
      have HREP : Hid (List.replicate (i + 1) x = List.replicate i x ++ [x]) := Lib.hid List.replicate_succ'
      clear hd
      go_wp2_with (at_builtin; refine wpList_mineU rfl (.tmp 29) (.tmp 31) rfl W _ _ rfl (HM.out.alloc _) _ _ rfl (src_oneU wr (.int .u64 (x : Int)) rfl) (by have := HN.out; simp; omega) ?_; intro v6 w6 hm6; have H6 := Lib.hid hm6; clear hm6)
      go_roundg (n - (i + 1))
      case measure => have := HD.out; omega
      case rel => exact ⟨i + 1, HD.out, rfl, by go_num, by rw [HREP.out, xvals_append]; exact H6.out⟩
    · obtain rfl : i = n := by omega
      clear hd
      go_wp2_with fail
      refine (HCS.out _ _ HM.out).mono ?_
      rintro e w5 ⟨rfl, k5⟩
      have K5 := Lib.hid (HM.out.kept.trans k5)
      clear k5
      by_cases n0 : i = 0
      · subst n0
        by_cases l0 : L = 0
        · obtain rfl : C = 0 := by have := HCA.out; omega
          subst l0
          have p2 : ((0 : Nat) : Int) = 0 := rfl
          go_wp2_with fail
          refine (HCL.out _ K5.out).mono ?_
          rintro e w6 ⟨rfl, k6⟩
          have K6 := Lib.hid (K5.out.trans k6)
          clear k6
          go_wp2
          go_ret
          exact ⟨rfl, K6.out⟩
        · have p2 : ((L : Int) == 0) = false := by simp; omega
          have p3 : ((B : Int) ≤ (C : Int)) := by have := HCC.out; omega
          have p3b : decide (B ≤ C) = true := decide_eq_true (by have := HCC.out; omega)
          clear l0
          go_wp2_with fail
          refine (HCL.out _ K5.out).mono ?_
          rintro e w6 ⟨rfl, k6⟩
          have K6 := Lib.hid (K5.out.trans k6)
          clear k6
          go_wp2
          go_ret
          exact ⟨rfl, K6.out⟩
      · have p0 : (0 : Int) < (i : Int) := by omega
        have p0b : decide (0 < i) = true := decide_eq_true (by omega)
        have p0c : ((i : Int) == 0) = false := by simp; omega
        rw [if_neg n0]
        have pd : ((D : Int) != (D : Int)) = false := by simp
        by_cases l0 : L = 0
        · obtain rfl : C = 0 := by have := HCA.out; omega
          subst l0
          clear n0
          go_wp2_with fail
          refine (HCL.out _ K5.out).mono ?_
          rintro e w6 ⟨rfl, k6⟩
          have K6 := Lib.hid (K5.out.trans k6)
          clear k6
          go_wp2
          go_ret
          exact ⟨rfl, K6.out⟩
        · have p2 : ((L : Int) == 0) = false := by simp; omega
          have p3 : ((B : Int) ≤ (C : Int)) := by have := HCC.out; omega
          have p3b : decide (B ≤ C) = true := decide_eq_true (by have := HCC.out; omega)
          clear l0 n0
          go_wp2_with fail
          refine (HCL.out _ K5.out).mono ?_
          rintro e w6 ⟨rfl, k6⟩
          have K6 := Lib.hid (K5.out.trans k6)
          clear k6
          go_wp2
          go_ret
          exact ⟨rfl, K6.out⟩

set_option maxHeartbeats 1000000 in
theorem xorSame_walk (ao : Option Addr) (la ca : Nat) (z0 : List Int) (x n : Int) (W : World) (h0 : IsRow .u64 W ao la ca z0) (hx : 0 ≤ x ∧ x ≤ 18446744073709551615) (hn : -9223372036854775808 ≤ n ∧ n ≤ 9223372036854775807) (HT : BruTab W) :
    Calls Tryd.prog 9 #[.slice ao la ca, .int .u64 x, .int .i64 n] W fun e w' => e = .returned (.bool true) ∧ Kept (fun _ => False) W w' := by
  obtain ⟨l, rfl, hb, hv⟩ := h0.slAtN 18446744073709551616 wf_u64
  by_cases hl : l.length ≤ 300 ∧ 0 ≤ n ∧ n ≤ 300
  · obtain ⟨h1, h2, h3⟩ := hl
    obtain ⟨m, rfl⟩ : ∃ m : Nat, n = m := ⟨n.toNat, by omega⟩
    obtain ⟨y, rfl⟩ : ∃ y : Nat, x = y := ⟨x.toNat, by omega⟩
    exact xorSame_walk0 ao ca l y m W hv h1 hb (by omega) (by omega) HT
  · have HA := Lib.hid (awake7_any W HT)
    have hq : (300 : Int) < (l.length : Int) ∨ ((¬ (300 : Int) < (l.length : Int)) ∧ n < 0) ∨ ((¬ (300 : Int) < (l.length : Int)) ∧ (¬ n < 0) ∧ 300 < n) := by omega
    clear h0 hb hv HT hl hx hn
    rcases hq with q1 | ⟨q1, q2⟩ | ⟨q1, q2, q3⟩
    all_goals
      go_enter Tryd.func9, Tryd.ntmps9
      go_wp2_with fail
      refine HA.out.mono ?_
      rintro e w1 ⟨rfl, K1⟩
      go_wp2
      go_ret
      exact ⟨rfl, K1⟩
end Go.Proofs.YtaagjedkojlbpaaDoor
