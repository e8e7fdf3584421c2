/- package hist: Fit. -/
import Derived.Test.YtbjpcddnjndjlaaH82
namespace Go.Proofs.Ytbjpcddnjndjlaa
open Go.RowKit
attribute [local go_sem ↓] Go.wp_at_zero Go.wp_at_succ

/-- Whether both sides have at most so many buckets. -/
def fits (h : HistV) (most : Int) (b : Nat) : Prop := ((dWidth h.po h.pl.length b : Nat) : Int) ≤ most ∧ ((dWidth h.no h.nl.length b : Nat) : Int) ≤ most
/-- A histogram as coarse as it must be. -/
def FitOf (h : HistV) (most : Int) (R : HistV) (E : Nat) : Prop :=
  (h.err ≠ 0 ∧ E = h.err ∧ R = zeroH) ∨
  (h.err = 0 ∧ ∃ b : Nat, (b : Int) ≤ h.sc + 10 ∧ fits h most b ∧ (∀ a, a < b → ¬ fits h most a) ∧ R = downH h b ∧ E = 0) ∨
  (h.err = 0 ∧ (∀ a : Nat, (a : Int) ≤ h.sc + 10 → ¬ fits h most a) ∧ R = zeroH ∧ E = 4)
theorem FitOf.uniq {h : HistV} {most : Int} {R1 R2 : HistV} {E1 E2 : Nat} (h1 : FitOf h most R1 E1) (h2 : FitOf h most R2 E2) : R1 = R2 ∧ E1 = E2 := by
  rcases h1 with ⟨a, rfl, rfl⟩ | ⟨a, b, hb, f, l, rfl, rfl⟩ | ⟨a, n, rfl, rfl⟩
  · rcases h2 with ⟨c, rfl, rfl⟩ | ⟨c, _⟩ | ⟨c, _⟩
    · exact ⟨rfl, rfl⟩
    · exact absurd c a
    · exact absurd c a
  · rcases h2 with ⟨c, _⟩ | ⟨c, b', hb', f', l', rfl, rfl⟩ | ⟨c, n', _⟩
    · exact absurd a c
    · rcases Nat.lt_trichotomy b b' with x | x | x
      · exact absurd f (l' b x)
      · subst x; exact ⟨rfl, rfl⟩
      · exact absurd f' (l b' x)
    · exact absurd f (n' b hb)
  · rcases h2 with ⟨c, _⟩ | ⟨c, b', hb', f', _⟩ | ⟨c, n', rfl, rfl⟩
    · exact absurd a c
    · exact absurd f' (n b' hb')
    · exact ⟨rfl, rfl⟩

set_option maxHeartbeats 4000000 in
set_option maxRecDepth 100000 in
theorem histFit_ok (h : HistV) (most : Int) (ao bo : Option Addr) (c d : Nat) (w w0 : World) (k0 : Kept (fun _ => False) w w0)
    (hw0 : w0 = (w.alloc (.cells #[.int .i64 h.sc, .int .u64 (h.ze : Int), .int .i64 h.po, .slice ao h.pl.length c, .int .i64 h.no, .slice bo h.nl.length d] 27)).alloc (.cells #[.int .i64 0, .int .u64 0, .int .i64 0, .slice none 0 0, .int .i64 0, .slice none 0 0] 27))
    (bx : HistBox w0 w.heap.size h (.slice ao h.pl.length c) (.slice bo h.nl.length d)) (rx : HistBox w0 (w.heap.size + 1) zeroH (.slice none 0 0) (.slice none 0 0))
    (hE : Calls Try.prog 16 #[.agg #[.int .i64 h.sc, .int .u64 (h.ze : Int), .int .i64 h.po, .slice ao h.pl.length c, .int .i64 h.no, .slice bo h.nl.length d]] w0 fun e w' => e = .returned (.int .i64 0) ∧ Kept (fun _ => False) w0 w')
    (HW1 : Hid (∀ w' (b : Nat), Kept (fun _ => False) w0 w' → b ≤ 60 → Calls Try.prog 44 #[.agg #[.int .i64 h.po, .slice ao h.pl.length c], .int .i64 b] w' fun e w' => e = .returned (.int .i64 ((dWidth h.po h.pl.length b : Nat) : Int)) ∧ Kept (fun _ => False) w0 w'))
    (HW2 : Hid (∀ w' (b : Nat), Kept (fun _ => False) w0 w' → b ≤ 60 → Calls Try.prog 44 #[.agg #[.int .i64 h.no, .slice bo h.nl.length d], .int .i64 b] w' fun e w' => e = .returned (.int .i64 ((dWidth h.no h.nl.length b : Nat) : Int)) ∧ Kept (fun _ => False) w0 w'))
    (HDN : Hid (∀ w' (b : Nat), Kept (fun _ => False) w0 w' → (b : Int) ≤ h.sc + 10 → Calls Try.prog 22 #[.agg #[.int .i64 h.sc, .int .u64 (h.ze : Int), .int .i64 h.po, .slice ao h.pl.length c, .int .i64 h.no, .slice bo h.nl.length d], .int .i64 b] w' (HistOut w' (downH h b) 0)))
    (hsc : -10 ≤ h.sc ∧ h.sc ≤ 20) (he : h.err = 0) :
    Calls Try.prog 24 #[.agg #[.int .i64 h.sc, .int .u64 (h.ze : Int), .int .i64 h.po, .slice ao h.pl.length c, .int .i64 h.no, .slice bo h.nl.length d], .int .i64 most] w (fun e w' => ∃ R E, FitOf h most R E ∧ HistOut w R E e w') := by
  have HK0 := Lib.hid k0
  have HBX := Lib.hid bx
  have HRX := Lib.hid rx
  have HW0 := Lib.hid hw0
  rw [hw0] at hE
  have HC := Lib.hid hE
  have HE := Lib.hid he
  have q : ((0 : Int) != 0) = false := rfl
  obtain ⟨N, hN⟩ : ∃ N : Nat, (N : Int) = h.sc + 11 := ⟨(h.sc + 11).toNat, by omega⟩
  have sc1 : IntKind.i64.wrap (h.sc - -10) = h.sc + 10 := by rw [IntWalk.i64_in _ ⟨by omega, by omega⟩]; omega
  have sc2 : h.sc - -10 = h.sc + 10 := by omega
  have sc3 : IntKind.i64.wrap (h.sc + 10 + 1) = (N : Int) := by rw [IntWalk.i64_in _ ⟨by omega, by omega⟩]; omega
  have sc4 : h.sc + 10 + 1 = (N : Int) := by omega
  have sc5 : IntKind.i64.wrap (h.sc + 10) = h.sc + 10 := IntWalk.i64_in _ ⟨by omega, by omega⟩
  have sc6 : IntKind.i64.wrap (N : Int) = (N : Int) := IntWalk.i64_in _ ⟨by omega, by omega⟩
  have HN := Lib.hid hN
  have HSC := Lib.hid hsc
  have hN60 : N ≤ 60 := by omega
  clear k0 bx rx hw0 hE he hN
  go_enter Try.func24, Try.ntmps24
  go_wp2_with (go_at_call 16; refine HC.out.mono ?_; rintro e w1 ⟨rfl, k1⟩; rw [← HW0.out] at k1; have K1 := Lib.hid k1; obtain ⟨c0, c1, c2, c3, c4, c5⟩ := (HBX.out.same k1 (fun x => x)).c; clear k1)
  clear c0 c1 c2 c3 c4 c5
  go_loopg [7, 18, 19, 20, 21, 22, 23, 24, 25, 26, 27, 28, 29, 30, 31, 32, 33, 34, 35, 36, 37, 38, 39, 40] N (fun g s7 s18 s19 s20 s21 s22 s23 s24 s25 s26 s27 s28 s29 s30 s31 s32 s33 s34 s35 s36 s37 s38 s39 s40 wr => ∃ b : Nat, b ≤ N ∧ g = N - b ∧ s18 = .int .i64 b ∧ (∀ a, a < b → ¬ fits h most a) ∧ Kept (fun _ => False) w0 wr)
  case atStart => exact ⟨0, Nat.zero_le _, rfl, rfl, fun a ha => by omega, K1.out⟩
  case round =>
    obtain ⟨b, hbN, rfl, rfl, hno, hk⟩ := hrel
    have HNO := Lib.hid hno
    have HK := Lib.hid hk
    clear hno
    by_cases hd : b < N
    · have hdi : (b : Int) < (N : Int) := by omega
      have HD := Lib.hid hd
      obtain ⟨c0, c1, c2, c3, c4, c5⟩ := (HBX.out.same hk (fun x => x)).c
      have hw1 := fun w' k => HW1.out w' b k (by omega)
      have hw2 := fun w' k => HW2.out w' b k (by omega)
      have hdn := fun w' k => HDN.out w' b k (by have := HN.out; omega)
      obtain ⟨A, hA⟩ : ∃ A, A = dWidth h.po h.pl.length b := ⟨_, rfl⟩
      obtain ⟨B, hB⟩ : ∃ B, B = dWidth h.no h.nl.length b := ⟨_, rfl⟩
      rw [← hA] at hw1
      rw [← hB] at hw2
      have HX1 := Lib.hid hw1
      have HX2 := Lib.hid hw2
      have HDX := Lib.hid hdn
      have HF := Lib.hid (show fits h most b ↔ ((A : Int) ≤ most ∧ (B : Int) ≤ most) by unfold fits; rw [hA, hB])
      clear hw1 hw2 hdn hA hB hk hd
      by_cases hf1 : (A : Int) ≤ most
      · by_cases hf2 : (B : Int) ≤ most
        · have HF2 := Lib.hid (HF.out.mpr ⟨hf1, hf2⟩)
          obtain ⟨R, hR⟩ : ∃ R, R = downH h b := ⟨_, rfl⟩
          rw [← hR] at HDX
          have HR := Lib.hid hR
          clear hR
          go_wp2_with (first
            | (have _tok := HK3.out; go_at_call 44; refine (HX2.out _ HK3.out).mono ?_; rintro e w4 ⟨rfl, k4⟩; have HK4 := Lib.hid k4; obtain ⟨c0, c1, c2, c3, c4, c5⟩ := (HBX.out.same k4 (fun x => x)).c; clear k4)
            | (go_at_call 44; refine (HX1.out _ HK.out).mono ?_; rintro e w3 ⟨rfl, k3⟩; have HK3 := Lib.hid k3; obtain ⟨c0, c1, c2, c3, c4, c5⟩ := (HBX.out.same k3 (fun x => x)).c; clear k3)
            | (go_at_call 22; refine (HDX.out _ HK4.out).mono ?_; rintro e w5 ⟨pv, nv, rfl, m1, m2, dis⟩; unfold histV; obtain ⟨a5, q5, rfl⟩ := m1.slice; obtain ⟨a6, q6, rfl⟩ := m2.slice; have HM1 := Lib.hid m1; have HM2 := Lib.hid m2; have HDIS := Lib.hid dis; have rx5 := HRX.out.same (HK4.out.trans m1.kept) (fun x => x); have RX5 := Lib.hid rx5; obtain ⟨r0, r1, r2, r3, r4, r5⟩ := rx5.c; obtain ⟨f0, f1, f2, f3, f4, f5⟩ := rx5.f; clear m1 m2 dis rx5)
            | fail)
          refine hist_end (h := R) (pv := .slice a5 (uvals R.pl).length q5) (nv := .slice a6 (uvals R.nl).length q6) Try.results24 rfl rfl rfl (RX5.out.set R _ _) ?_
          have kk : Kept (fun _ => False) w w4 := HK0.out.trans HK4.out
          refine ⟨R, 0, .inr (.inl ⟨HE.out, b, by have := HN.out; have := HD.out; omega, HF2.out, HNO.out, HR.out, rfl⟩), _, _, rfl, ?_, ?_, HDIS.out⟩
          · exact (HM1.out.down kk).set6 RX5.out (by omega) _ _ _ _ _ _
          · exact (HM2.out.down kk).set6 RX5.out (by omega) _ _ _ _ _ _
        · have HF2 := Lib.hid (show ¬ fits h most b from fun x => hf2 (HF.out.mp x).2)
          go_wp2_with (first
            | (have _tok := HK3.out; go_at_call 44; refine (HX2.out _ HK3.out).mono ?_; rintro e w4 ⟨rfl, k4⟩; have HK4 := Lib.hid k4; clear k4)
            | (go_at_call 44; refine (HX1.out _ HK.out).mono ?_; rintro e w3 ⟨rfl, k3⟩; have HK3 := Lib.hid k3; obtain ⟨c0, c1, c2, c3, c4, c5⟩ := (HBX.out.same k3 (fun x => x)).c; clear k3)
            | fail)
          go_roundg (N - (b + 1))
          case measure => have := HD.out; omega
          case rel => exact ⟨b + 1, HD.out, rfl, by go_num, fun a ha => by rcases Nat.lt_succ_iff_lt_or_eq.mp ha with x | x; exact HNO.out a x; rw [x]; exact HF2.out, HK4.out⟩
      · have HF2 := Lib.hid (show ¬ fits h most b from fun x => hf1 (HF.out.mp x).1)
        go_wp2_with (first
          | (go_at_call 44; refine (HX1.out _ HK.out).mono ?_; rintro e w3 ⟨rfl, k3⟩; have HK3 := Lib.hid k3; clear k3)
          | fail)
        go_roundg (N - (b + 1))
        case measure => have := HD.out; omega
        case rel => exact ⟨b + 1, HD.out, rfl, by go_num, fun a ha => by rcases Nat.lt_succ_iff_lt_or_eq.mp ha with x | x; exact HNO.out a x; rw [x]; exact HF2.out, HK3.out⟩
    · obtain rfl : b = N := by omega
      have rx5 := HRX.out.same hk (fun x => x)
      have RX5 := Lib.hid rx5
      obtain ⟨r0, r1, r2, r3, r4, r5⟩ := rx5.c
      obtain ⟨f0, f1, f2, f3, f4, f5⟩ := rx5.f
      clear hd hk rx5
      go_wp2
      refine hist_end (h := zeroH) Try.results24 rfl rfl rfl (RX5.out.set zeroH (.slice none 0 0) (.slice none 0 0)) ?_
      exact ⟨zeroH, 4, .inr (.inr ⟨HE.out, fun a ha => HNO.out a (by have := HN.out; omega), rfl, rfl⟩), zeroOut (E := 4) ((HK0.out.trans HK.out).newer (set6_kept _ _ _ _ _ _ _ _) (fun i e => by omega))⟩
end Go.Proofs.Ytbjpcddnjndjlaa
