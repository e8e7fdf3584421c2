/- The document's answer for hist: Fit. -/
import Derived.Test.YtbjpcddnjndjlaaJ8
namespace Go.Proofs.Ytbjpcddnjndjlaa
open Go.RowKit
attribute [local go_sem ↓] Go.wp_at_zero Go.wp_at_succ

set_option maxHeartbeats 4000000 in
set_option maxRecDepth 100000 in
theorem refFit_ok (h : HistV) (most : Int) (ao bo : Option Addr) (c d : Nat) (w w0 : World) (k0 : Kept (fun _ => False) w w0)
    (hw0 : w0 = (w.alloc (.cells #[.int .i64 h.sc, .int .u64 (h.ze : Int), .int .i64 h.po, .slice ao h.pl.length c, .int .i64 h.no, .slice bo h.nl.length d] 27)).alloc (.cells #[.int .i64 0, .int .u64 0, .int .i64 0, .slice none 0 0, .int .i64 0, .slice none 0 0] 27))
    (bx : HistBox w0 w.heap.size h (.slice ao h.pl.length c) (.slice bo h.nl.length d)) (rx : HistBox w0 (w.heap.size + 1) zeroH (.slice none 0 0) (.slice none 0 0))
    (hE : Calls Try.prog 17 #[.agg #[.int .i64 h.sc, .int .u64 (h.ze : Int), .int .i64 h.po, .slice ao h.pl.length c, .int .i64 h.no, .slice bo h.nl.length d]] w0 fun e w' => e = .returned (.int .i64 0) ∧ Kept (fun _ => False) w0 w')
    (HDN : Hid (∀ w' (b : Nat), Kept (fun _ => False) w0 w' → (b : Int) ≤ h.sc + 10 → Calls Try.prog 23 #[.agg #[.int .i64 h.sc, .int .u64 (h.ze : Int), .int .i64 h.po, .slice ao h.pl.length c, .int .i64 h.no, .slice bo h.nl.length d], .int .i64 b] w' (HistOut w' (downH h b) 0)))
    (hsc : -10 ≤ h.sc ∧ h.sc ≤ 20) (he : h.err = 0) :
    Calls Try.prog 25 #[.agg #[.int .i64 h.sc, .int .u64 (h.ze : Int), .int .i64 h.po, .slice ao h.pl.length c, .int .i64 h.no, .slice bo h.nl.length d], .int .i64 most] w (fun e w' => ∃ R E, FitOf h most R E ∧ HistOut w R E e w') := by
  have HK0 := Lib.hid k0
  have HBX := Lib.hid bx
  have HRX := Lib.hid rx
  have HW0 := Lib.hid hw0
  rw [hw0] at hE
  have HC := Lib.hid hE
  have HE := Lib.hid he
  have q : ((0 : Int) != 0) = false := rfl
  obtain ⟨N, hN⟩ : ∃ N : Nat, (N : Int) = h.sc + 11 := ⟨(h.sc + 11).toNat, by omega⟩
  have sc1 : IntKind.i64.wrap (h.sc - -10) = h.sc + 10 := by rw [IntWalk.i64_in _ ⟨by omega, by omega⟩]; omega
  have sc2 : h.sc - -10 = h.sc + 10 := by omega
  have sc5 : IntKind.i64.wrap (h.sc + 10) = h.sc + 10 := IntWalk.i64_in _ ⟨by omega, by omega⟩
  have HN := Lib.hid hN
  have hN60 : N ≤ 60 := by omega
  clear k0 bx rx hw0 hE he
  go_enter Try.func25, Try.ntmps25
  go_wp2_with (go_at_call 17; refine HC.out.mono ?_; rintro e w1 ⟨rfl, k1⟩; rw [← HW0.out] at k1; have K1 := Lib.hid k1; obtain ⟨c0, c1, c2, c3, c4, c5⟩ := (HBX.out.same k1 (fun x => x)).c; clear k1)
  clear c0 c1 c2 c3 c4 c5
  go_loopg [7, 8, 9, 16, 17, 18, 19, 20, 21, 22, 23, 24, 25, 26, 27, 28, 29, 30, 31, 32, 33, 34, 35, 36, 37, 38, 39, 40, 41, 42, 43] N (fun g s7 s8 s9 s16 s17 s18 s19 s20 s21 s22 s23 s24 s25 s26 s27 s28 s29 s30 s31 s32 s33 s34 s35 s36 s37 s38 s39 s40 s41 s42 s43 wr => ∃ b : Nat, b ≤ N ∧ g = N - b ∧ s7 = .int .i64 b ∧ (∀ a, a < b → ¬ fits h most a) ∧ Kept (fun _ => False) w0 wr)
  case atStart => exact ⟨0, Nat.zero_le _, rfl, rfl, fun a ha => by omega, K1.out⟩
  case round =>
    obtain ⟨b, hbN, rfl, rfl, hno, hk⟩ := hrel
    have HNO := Lib.hid hno
    have HK := Lib.hid hk
    clear hno
    obtain ⟨c0, c1, c2, c3, c4, c5⟩ := (HBX.out.same hk (fun x => x)).c
    by_cases hd : b < N
    · have hdi : (b : Int) ≤ h.sc + 10 := by omega
      have HD := Lib.hid hd
      have hdn := HDN.out wr b hk hdi
      obtain ⟨A, hA⟩ : ∃ A, A = dWidth h.po h.pl.length b := ⟨_, rfl⟩
      obtain ⟨B, hB⟩ : ∃ B, B = dWidth h.no h.nl.length b := ⟨_, rfl⟩
      have HF := Lib.hid (show fits h most b ↔ ((A : Int) ≤ most ∧ (B : Int) ≤ most) by unfold fits; rw [hA, hB])
      obtain ⟨R, hR⟩ : ∃ R, R = downH h b := ⟨_, rfl⟩
      rw [← hR] at hdn
      have hRA : (uvals R.pl).length = A ∧ (uvals R.nl).length = B := by rw [hR, uvals_length, uvals_length, hA, hB]; unfold downH; exact ⟨downL_length _ _ _, downL_length _ _ _⟩
      have HRA := Lib.hid hRA
      have HDX := Lib.hid hdn
      have HR := Lib.hid hR
      clear hdn hA hB hk hd hR hRA hN
      by_cases hf1 : (A : Int) ≤ most
      · by_cases hf2 : (B : Int) ≤ most
        · have HF2 := Lib.hid (HF.out.mpr ⟨hf1, hf2⟩)
          go_wp2_with (first
            | (go_at_call 23; refine HDX.out.mono ?_; rintro e w5 ⟨pv, nv, rfl, m1, m2, dis⟩; unfold histV; obtain ⟨a5, q5, rfl⟩ := m1.slice; obtain ⟨a6, q6, rfl⟩ := m2.slice; have HM1 := Lib.hid m1; have HM2 := Lib.hid m2; have HDIS := Lib.hid dis; rw [HRA.out.1, HRA.out.2]; have hrx := (HRX.out.same ((HK.out.trans m1.kept).alloc (.cells #[.int .i64 R.sc, .int .u64 (R.ze : Int), .int .i64 R.po, .slice a5 A q5, .int .i64 R.no, .slice a6 B q6] 27)) (fun x => x)); have RX5 := Lib.hid hrx; obtain ⟨r0, r1, r2, r3, r4, r5⟩ := hrx.c; obtain ⟨f0, f1, f2, f3, f4, f5⟩ := hrx.f; clear m1 m2 dis hrx)
            | fail)
          refine hist_end (h := R) (pv := .slice a5 A q5) (nv := .slice a6 B q6) Try.results25 rfl rfl rfl (RX5.out.set R _ _) ?_
          have kk : Kept (fun _ => False) w wr := HK0.out.trans HK.out
          have m1 := HM1.out
          have m2 := HM2.out
          have hds := HDIS.out
          rw [HRA.out.1] at m1 hds
          rw [HRA.out.2] at m2 hds
          refine ⟨R, 0, .inr (.inl ⟨HE.out, b, hdi, HF2.out, HNO.out, HR.out, rfl⟩), _, _, rfl, ?_, ?_, hds⟩
          · exact ((m1.down kk).alloc _).set6 RX5.out (by omega) _ _ _ _ _ _
          · exact ((m2.down kk).alloc _).set6 RX5.out (by omega) _ _ _ _ _ _
        · have HF2 := Lib.hid (show ¬ fits h most b from fun x => hf2 (HF.out.mp x).2)
          go_wp2_with (first
            | (go_at_call 23; refine HDX.out.mono ?_; rintro e w5 ⟨pv, nv, rfl, m1, m2, dis⟩; unfold histV; obtain ⟨a5, q5, rfl⟩ := m1.slice; obtain ⟨a6, q6, rfl⟩ := m2.slice; rw [HRA.out.1, HRA.out.2]; have HK5 := Lib.hid (HK.out.trans m1.kept); clear m1 m2 dis)
            | fail)
          go_roundg (N - (b + 1))
          case measure => have := HD.out; omega
          case rel => exact ⟨b + 1, HD.out, rfl, by go_num, fun a ha => by rcases Nat.lt_succ_iff_lt_or_eq.mp ha with x | x; exact HNO.out a x; rw [x]; exact HF2.out, HK5.out.alloc _⟩
      · have HF2 := Lib.hid (show ¬ fits h most b from fun x => hf1 (HF.out.mp x).1)
        go_wp2_with (first
          | (go_at_call 23; refine HDX.out.mono ?_; rintro e w5 ⟨pv, nv, rfl, m1, m2, dis⟩; unfold histV; obtain ⟨a5, q5, rfl⟩ := m1.slice; obtain ⟨a6, q6, rfl⟩ := m2.slice; rw [HRA.out.1, HRA.out.2]; have HK5 := Lib.hid (HK.out.trans m1.kept); clear m1 m2 dis)
          | fail)
        go_roundg (N - (b + 1))
        case measure => have := HD.out; omega
        case rel => exact ⟨b + 1, HD.out, rfl, by go_num, fun a ha => by rcases Nat.lt_succ_iff_lt_or_eq.mp ha with x | x; exact HNO.out a x; rw [x]; exact HF2.out, HK5.out.alloc _⟩
    · obtain rfl : b = N := by omega
      have hdi : ¬ (b : Int) ≤ h.sc + 10 := by omega
      have rx5 := HRX.out.same hk (fun x => x)
      have RX5 := Lib.hid rx5
      obtain ⟨r0, r1, r2, r3, r4, r5⟩ := rx5.c
      obtain ⟨f0, f1, f2, f3, f4, f5⟩ := rx5.f
      clear hd hk rx5 hN
      go_wp2
      refine hist_end (h := zeroH) Try.results25 rfl rfl rfl (RX5.out.set zeroH (.slice none 0 0) (.slice none 0 0)) ?_
      exact ⟨zeroH, 4, .inr (.inr ⟨HE.out, fun a ha => HNO.out a (by have := HN.out; omega), rfl, rfl⟩), zeroOut (E := 4) ((HK0.out.trans HK.out).newer (set6_kept _ _ _ _ _ _ _ _) (fun i e => by omega))⟩

set_option maxHeartbeats 4000000 in
set_option maxRecDepth 100000 in
theorem refFit_any (h : HistV) (most : Int) (pv nv : Value) (w : World) (ha : HistAt w h pv nv) (hok : h.ok) (hp : h.pl.length ≤ 1000000) (hn : h.nl.length ≤ 1000000) (hc1 : ∀ a n c, pv = .slice a n c → n ≤ c) (hc2 : ∀ a n c, nv = .slice a n c → n ≤ c) :
    Calls Try.prog 25 #[histV h pv nv, .int .i64 most] w (fun e w' => ∃ R E, FitOf h most R E ∧ HistOut w R E e w') := by
  obtain ⟨⟨ao, c, rfl⟩, bo, d, rfl⟩ := ha.sl
  obtain ⟨w0, hw0⟩ : ∃ w0, w0 = (w.alloc (.cells #[.int .i64 h.sc, .int .u64 (h.ze : Int), .int .i64 h.po, .slice ao h.pl.length c, .int .i64 h.no, .slice bo h.nl.length d] 27)).alloc (.cells #[.int .i64 0, .int .u64 0, .int .i64 0, .slice none 0 0, .int .i64 0, .slice none 0 0] 27) := ⟨_, rfl⟩
  have k0 : Kept (fun _ => False) w w0 := by rw [hw0]; exact ((Kept.refl _ w).alloc _).alloc _
  have bx : HistBox w0 w.heap.size h (.slice ao h.pl.length c) (.slice bo h.nl.length d) := by
    rw [hw0]; exact ((Kept.refl (fun _ => False) _).alloc _).same (heap_alloc_new w _) (fun x => x)
  have rx : HistBox w0 (w.heap.size + 1) zeroH (.slice none 0 0) (.slice none 0 0) := by
    rw [hw0]
    have := hist_alloc (w.alloc (.cells #[.int .i64 h.sc, .int .u64 (h.ze : Int), .int .i64 h.po, .slice ao h.pl.length c, .int .i64 h.no, .slice bo h.nl.length d] 27))
    have e : (w.alloc (.cells #[.int .i64 h.sc, .int .u64 (h.ze : Int), .int .i64 h.po, .slice ao h.pl.length c, .int .i64 h.no, .slice bo h.nl.length d] 27)).heap.size = w.heap.size + 1 := by simp
    rw [e] at this
    exact this
  have HC := Lib.hid (refCheck_any h _ _ w0 (ha.on k0) hok hp hn)
  have HA := Lib.hid fun w' (k : Kept (fun _ => False) w0 w') => ha.on (k0.trans k)
  have HK0 := Lib.hid k0
  have HBX := Lib.hid bx
  have HRX := Lib.hid rx
  have HW0 := Lib.hid hw0
  obtain ⟨E, hE⟩ : ∃ E, E = h.err := ⟨_, rfl⟩
  by_cases hE0 : h.err = 0
  · obtain ⟨hsc, _⟩ := err_light hE0
    have hC := HC.out
    rw [hE0] at hC
    refine refFit_ok h most ao bo c d w w0 HK0.out HW0.out HBX.out HRX.out hC (Lib.hid fun w' b k hb => ?_) hsc hE0
    have := refDown_any h b _ _ w' (HA.out _ k) hok hp hn (by unfold I64; omega) hc1 hc2
    have e1 : downE h b = 0 := by unfold downE; rw [if_neg (by omega), if_neg (by omega)]
    have e2 : downR h b = downH h b := by unfold downR; rw [e1, if_pos rfl, Int.toNat_natCast]
    rwa [e1, e2] at this
  · have HF : Hid (FitOf h most zeroH E) := Lib.hid (.inl ⟨hE0, hE, rfl⟩)
    rw [← hE] at HC hE0
    have q : ((E : Int) != 0) = true := bneT (by omega)
    rw [hw0] at HC
    have HC := Lib.hid HC.out
    clear ha k0 bx rx hw0 hE hc1 hc2
    obtain ⟨sc, ze, po, pl, no, nl⟩ := h
    unfold histV at HC ⊢
    go_enter Try.func25, Try.ntmps25
    go_wp2_with (go_at_call 17; refine HC.out.mono ?_; rintro e w1 ⟨rfl, k1⟩; rw [← HW0.out] at k1; have K1 := Lib.hid (HK0.out.trans k1); have rx1 := HRX.out.same k1 (fun x => x); have RX1 := Lib.hid rx1; obtain ⟨r0, r1, r2, r3, r4, r5⟩ := rx1.c; obtain ⟨f0, f1, f2, f3, f4, f5⟩ := rx1.f; clear k1 rx1)
    refine hist_end (h := zeroH) Try.results25 rfl rfl rfl (RX1.out.set zeroH (.slice none 0 0) (.slice none 0 0)) ?_
    exact ⟨zeroH, E, HF.out, zeroOut (K1.out.newer (set6_kept _ _ _ _ _ _ _ _) (fun i e => by omega))⟩
end Go.Proofs.Ytbjpcddnjndjlaa
