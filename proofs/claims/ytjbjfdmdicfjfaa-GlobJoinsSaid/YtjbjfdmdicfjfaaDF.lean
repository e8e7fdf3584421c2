/- Layer 32: the walk of GlobJoins. -/
import Derived.Test.YtjbjfdmdicfjfaaDE
namespace Go.Proofs.Ytjbjfdmdicfjfaa
open Go.RowKit
attribute [local go_sem ↓] Go.wp_at_zero Go.wp_at_succ

set_option maxHeartbeats 8000000 in
theorem bl_takeX (s : ByteArray) (i : Nat) : bl (s.extract 0 i) = (bl s).take i := by rw [bl_extract, List.drop_zero]
theorem run_toX {P : Program} {t : TypeId} (h : P.underlying t = some .string) (s : ByteArray) (j : Nat) (hj : j ≤ s.size) (w : World) : (Instr.slice t (.string s) none (some (.int .i64 (j : Int))) none).run P w = .ok (.string (s.extract 0 j)) w := by
  have := run_slice_string_h (P := P) w t s h .i64 (j : Int) (by omega) (by omega); simpa using this
theorem globJoins_walk (a b s : ByteArray) (w : World) (ha : a.size ≤ 9223372036854775807) (hb : b.size ≤ 9223372036854775807) (hs : s.size ≤ 9223372036854775807) :
    Calls Try.prog 5 #[.string a, .string b, .string s] w fun e w' => e = .returned (.bool true) ∧ Kept (fun _ => False) w w' := by
  have HA := Lib.hid (awake32_any w)
  by_cases h1 : 32 < a.size
  · have q1 : (32 : Int) < (a.size : Int) := by omega
    have q1' : decide (32 < a.size) = true := decide_eq_true h1
    clear ha hb hs h1
    go_enter Try.func5, Try.ntmps5
    go_wp2_with fail
    refine HA.out.mono ?_
    rintro e w1 ⟨rfl, k1⟩
    go_wp2
    go_ret
    exact ⟨rfl, k1⟩
  have q1 : ¬ (32 : Int) < (a.size : Int) := by omega
  have q1' : decide (32 < a.size) = false := decide_eq_false h1
  by_cases h2 : 32 < b.size
  · have q2 : (32 : Int) < (b.size : Int) := by omega
    have q2' : decide (32 < b.size) = true := decide_eq_true h2
    clear ha hb hs h1 h2
    go_enter Try.func5, Try.ntmps5
    go_wp2_with fail
    refine HA.out.mono ?_
    rintro e w1 ⟨rfl, k1⟩
    go_wp2
    go_ret
    exact ⟨rfl, k1⟩
  have q2 : ¬ (32 : Int) < (b.size : Int) := by omega
  have q2' : decide (32 < b.size) = false := decide_eq_false h2
  by_cases h3 : 60 < s.size
  · have q3 : (60 : Int) < (s.size : Int) := by omega
    have q3' : decide (60 < s.size) = true := decide_eq_true h3
    clear ha hb hs h1 h2 h3
    go_enter Try.func5, Try.ntmps5
    go_wp2_with fail
    refine HA.out.mono ?_
    rintro e w1 ⟨rfl, k1⟩
    go_wp2
    go_ret
    exact ⟨rfl, k1⟩
  have q3 : ¬ (60 : Int) < (s.size : Int) := by omega
  have q3' : decide (60 < s.size) = false := decide_eq_false h3
  have C1 := Lib.hid (fun w => compile_any a w (by omega))
  have C2 := Lib.hid (fun w => compile_any b w (by omega))
  have C3 := Lib.hid (fun w => compile_any (a ++ b) w (by simp; omega))
  have HSZ := Lib.hid (show s.size ≤ 60 by omega)
  have HAB := Lib.hid (show a.size + b.size ≤ 64 by omega)
  have HCJ := Lib.hid (fun A B (h1 : compS a = .good A) (h2 : compS b = .good B) => compS_join h1 h2 HAB.out)
  have HLO := Lib.hid (fun i (hi : i ≤ s.size) w => run_from (P := Try.prog) Try.underlying9 s i hi w)
  have HHI := Lib.hid (fun i (hi : i ≤ s.size) w => run_toX (P := Try.prog) Try.underlying9 s i hi w)
  clear ha hb hs h1 h2 h3
  go_enter Try.func5, Try.ntmps5
  go_wp2_with fail
  refine HA.out.mono ?_
  rintro e w1 ⟨rfl, k1⟩
  have K1 := Lib.hid k1
  clear k1
  cases hca : compS a with
  | bad x y =>
    rw [hca] at C1
    clear hca
    go_wp2_with fail
    refine (C1.out _).mono ?_
    rintro e w2 ⟨k2, rfl, _⟩
    have K2 := Lib.hid (K1.out.trans k2)
    clear k2
    go_wp2_with fail
    refine (C2.out _).mono ?_
    intro e w3 hc2
    have k3 := hc2.1
    have K3 := Lib.hid (K2.out.trans k3)
    have he : ∃ v x y, e = .returned (.tuple #[.pointer v, .int .i64 x, .int .i64 y]) := by
      have := hc2.2
      cases hcb : compS b with
      | bad x y => rw [hcb] at this; exact ⟨_, _, _, this.1⟩
      | good B => rw [hcb] at this; obtain ⟨gb, L, _, _, _, h⟩ := this; exact ⟨_, _, _, h⟩
    obtain ⟨v, x2, y2, rfl⟩ := he
    clear hc2 k3
    go_wp2
    go_ret
    exact ⟨rfl, K3.out⟩
  | good A =>
    rw [hca] at C1
    have HCA := Lib.hid hca
    clear hca
    go_wp2_with fail
    refine (C1.out _).mono ?_
    rintro e w2 ⟨k2, g1, L1, hL1, hG1, _, rfl⟩
    have K2 := Lib.hid (K1.out.trans k2)
    have HL1 := Lib.hid hL1
    have HG1 := Lib.hid hG1
    clear k2 hL1 hG1
    cases hcb : compS b with
    | bad x y =>
      rw [hcb] at C2
      clear hcb
      go_wp2_with fail
      refine (C2.out _).mono ?_
      rintro e w3 ⟨k3, rfl, _⟩
      have K3 := Lib.hid (K2.out.trans k3)
      clear k3
      go_wp2
      go_ret
      exact ⟨rfl, K3.out⟩
    | good B =>
      rw [hcb] at C2
      have HCB := Lib.hid hcb
      clear hcb
      go_wp2_with fail
      refine (C2.out _).mono ?_
      rintro e w3 ⟨k3, g2, L2, hL2, hG2, _, rfl⟩
      have K3 := Lib.hid (K2.out.trans k3)
      have HL2 := Lib.hid hL2
      have HG2 := Lib.hid hG2
      have HG13 := Lib.hid (HG1.out.kept k3)
      rw [HCJ.out A B HCA.out HCB.out] at C3
      clear k3 hL2 hG2 HCJ
      go_wp2_with fail
      refine (C3.out _).mono ?_
      rintro e w4 ⟨k4, g3, L3, hL3, hG3, _, rfl⟩
      have K4 := Lib.hid (K3.out.trans k4)
      have HL3 := Lib.hid hL3
      have HM1 := Lib.hid (fun t w (ht : t.size ≤ 60) (k : Kept (fun _ => False) w4 w) => match_any g1 a t L1 w ((HG13.out.kept k4).kept k) (by omega))
      have HM2 := Lib.hid (fun t w (ht : t.size ≤ 60) (k : Kept (fun _ => False) w4 w) => match_any g2 b t L2 w ((HG2.out.kept k4).kept k) (by omega))
      have HM3 := Lib.hid (fun t w (ht : t.size ≤ 60) (k : Kept (fun _ => False) w4 w) => match_any g3 (a ++ b) t L3 w (hG3.kept k) (by omega))
      rw [HL1.out] at HM1
      rw [HL2.out] at HM2
      rw [HL3.out] at HM3
      have HTO := Lib.hid (bl_takeX s)
      have HFR := Lib.hid (bl_from s)
      clear k4 hL3 hG3
      go_wp2
      go_loopg [17, 16] (s.size + 1) (fun G s17 s16 wr => ∃ i : Nat, i ≤ s.size + 1 ∧ G = s.size + 1 - i ∧ s17 = .int .i64 i ∧ s16 = .bool (partsB A B (bl s) i) ∧ Kept (fun _ => False) w4 wr)
      case atStart => exact ⟨0, Nat.zero_le _, rfl, rfl, rfl, Kept.refl _ _⟩
      case round =>
        obtain ⟨i, hin, rfl, rfl, rfl, hk⟩ := hrel
        have HK := Lib.hid hk
        clear hk
        by_cases hd : i < s.size + 1
        · have hdi : (i : Int) ≤ (s.size : Int) := by omega
          have hdi' : decide (i ≤ s.size) = true := decide_eq_true (by omega)
          have hi0 : (0 : Int) ≤ (i : Int) := by omega
          have c1 := HLO.out i (by omega)
          have c2 := HHI.out i (by omega)
          have hps := partsB_succ A B (bl s) i
          have M1 := Lib.hid (fun w k => HM1.out (s.extract 0 i) w (by rw [size_cut _ _ _ (by omega)]; have := HSZ.out; omega) k)
          have M2 := Lib.hid (fun w k => HM2.out (s.extract i s.size) w (by rw [size_from]; have := HSZ.out; omega) k)
          rw [HTO.out i] at M1
          rw [HFR.out i] at M2
          obtain ⟨t1, ht1⟩ : ∃ t, t = s.extract 0 i := ⟨_, rfl⟩
          obtain ⟨t2, ht2⟩ : ∃ t, t = s.extract i s.size := ⟨_, rfl⟩
          rw [← ht1] at M1 c2
          rw [← ht2] at M2 c1
          obtain ⟨b1, hb1⟩ : ∃ x, x = mt A ((bl s).take i) := ⟨_, rfl⟩
          obtain ⟨b2, hb2⟩ : ∃ x, x = mt B ((bl s).drop i) := ⟨_, rfl⟩
          obtain ⟨b0, hb0⟩ : ∃ x, x = partsB A B (bl s) i := ⟨_, rfl⟩
          rw [← hb1] at M1
          rw [← hb2] at M2
          rw [← hb0, ← hb1, ← hb2] at hps
          rw [← hb0]
          have wi : IntKind.i64.wrap ((i : Int) + 1) = ((i + 1 : Nat) : Int) := by rw [IntWalk.i64_in _ ⟨by omega, by have := HSZ.out; omega⟩]; omega
          have HPS := Lib.hid hps
          clear hps hb1 hb2 hb0 ht1 ht2
          cases b0 with
          | true =>
            go_wp2
            go_roundg (s.size + 1 - (i + 1))
            case measure => omega
            case rel => exact ⟨i + 1, by omega, rfl, rfl, by rw [HPS.out]; rfl, HK.out⟩
          | false =>
            go_wp2_with fail
            refine (M1.out _ HK.out).mono ?_
            rintro e w5 ⟨rfl, k5⟩
            have HK5 := Lib.hid (HK.out.trans k5)
            clear k5
            cases b1 with
            | false =>
              go_wp2
              go_roundg (s.size + 1 - (i + 1))
              case measure => omega
              case rel => exact ⟨i + 1, by omega, rfl, rfl, by rw [HPS.out]; rfl, HK5.out⟩
            | true =>
              go_wp2_with fail
              refine (M2.out _ HK5.out).mono ?_
              rintro e w6 ⟨rfl, k6⟩
              have HK6 := Lib.hid (HK5.out.trans k6)
              clear k6
              go_wp2
              go_roundg (s.size + 1 - (i + 1))
              case measure => omega
              case rel => exact ⟨i + 1, by omega, rfl, rfl, by rw [HPS.out]; rfl, HK6.out⟩
        · obtain rfl : i = s.size + 1 := by omega
          have hdi : ¬ ((s.size + 1 : Nat) : Int) ≤ (s.size : Int) := by omega
          have hdi' : decide (s.size + 1 ≤ s.size) = false := decide_eq_false (by omega)
          have hall := partsB_all A B (bl s)
          rw [bl_length] at hall
          have M3 := Lib.hid (fun w k => HM3.out s w HSZ.out k)
          rw [hall] at M3
          obtain ⟨b0, hb0⟩ : ∃ x, x = partsB A B (bl s) (s.size + 1) := ⟨_, rfl⟩
          rw [← hb0] at M3 ⊢
          clear hall hb0 hin hd
          obtain ⟨n1, hn1⟩ : ∃ n, n = s.size + 1 := ⟨_, rfl⟩
          rw [← hn1] at hdi hdi' ⊢
          clear hn1
          go_wp2_with fail
          refine (M3.out _ HK.out).mono ?_
          rintro e w5 ⟨rfl, k5⟩
          have hbb : (b0 == b0) = true := by simp
          go_wp2
          go_ret
          exact ⟨by simp, K4.out.trans (HK.out.trans k5)⟩
end Go.Proofs.Ytjbjfdmdicfjfaa
