/- Layer 8: the walk of HistFits. -/
import Derived.Test.YtbjpcddnjndjlaaK4
namespace Go.Proofs.Ytbjpcddnjndjlaa
open Go.RowKit
attribute [local go_sem ↓] Go.wp_at_zero Go.wp_at_succ

theorem least_nat (p : Nat → Prop) : ∀ n, p n → ∃ b, b ≤ n ∧ p b ∧ ∀ a, a < b → ¬ p a := by
  intro n
  induction n using Nat.strongRecOn with
  | _ n ih =>
    intro h
    by_cases e : ∃ a, a < n ∧ p a
    · obtain ⟨a, h1, h2⟩ := e
      obtain ⟨b, h3, h4, h5⟩ := ih a h1 h2
      exact ⟨b, by omega, h4, h5⟩
    · exact ⟨n, Nat.le_refl _, h, fun a ha hp => e ⟨a, ha, hp⟩⟩
theorem fit_exists (h : HistV) (most : Int) : ∃ R E, FitOf h most R E := by
  by_cases he : h.err = 0
  · by_cases hb : ∃ b : Nat, (b : Int) ≤ h.sc + 10 ∧ fits h most b
    · obtain ⟨b, h1, h2⟩ := hb
      obtain ⟨c, h3, h4, h5⟩ := least_nat (fits h most) b h2
      exact ⟨_, _, .inr (.inl ⟨he, c, by omega, h4, h5, rfl, rfl⟩)⟩
    · exact ⟨_, _, .inr (.inr ⟨he, fun a h1 h2 => hb ⟨a, h1, h2⟩, rfl, rfl⟩)⟩
  · exact ⟨_, _, .inl ⟨he, rfl, rfl⟩⟩
theorem downH_zero (h : HistV) (he : h.err = 0) : downH h 0 = h := by
  obtain ⟨h1, h2, h3, h4⟩ := err_light he
  unfold downH
  rw [downL_by0, downL_by0, downO_by0 _ _ (sideE_zero h2).2.1, downO_by0 _ _ (sideE_zero h3).2.1]
  simp
theorem downH_lens (h : HistV) (b : Nat) : (uvals (downH h b).pl).length = dWidth h.po h.pl.length b ∧ (uvals (downH h b).nl).length = dWidth h.no h.nl.length b := by
  rw [uvals_length, uvals_length]
  exact ⟨downL_length _ _ _, downL_length _ _ _⟩
theorem nil_at (w : World) : HistAt w zeroH (.slice none 0 0) (.slice none 0 0) := ⟨⟨none, 0, rfl, fun _ => rfl, fun a e => by cases e⟩, ⟨none, 0, rfl, fun _ => rfl, fun a e => by cases e⟩⟩

set_option maxHeartbeats 4000000 in
set_option maxRecDepth 100000 in
theorem histFits_walk (h : HistV) (pv nv : Value) (most : Int) (W : World) (hi : HistIn W h pv nv) (_ : -9223372036854775808 ≤ most ∧ most ≤ 9223372036854775807) :
    Calls Try.prog 7 #[histV h pv nv, .int .i64 most] W fun e w' => e = .returned (.bool true) ∧ Kept (fun _ => False) W w' := by
  have ha := hi.at_
  have hok := hi.ok
  obtain ⟨⟨ao, c, rfl⟩, bo, d, rfl⟩ := ha.sl
  obtain ⟨w0, hw0⟩ : ∃ w0, w0 = W.alloc (.cells #[.int .i64 h.sc, .int .u64 (h.ze : Int), .int .i64 h.po, .slice ao h.pl.length c, .int .i64 h.no, .slice bo h.nl.length d] 27) := ⟨_, rfl⟩
  have HK0 : Hid (Kept (fun _ => False) W w0) := Lib.hid (by rw [hw0]; exact (Kept.refl _ _).alloc _)
  have HV0 : Hid (HV w0 W.heap.size h (.slice ao h.pl.length c) (.slice bo h.nl.length d)) := Lib.hid ⟨by rw [hw0]; exact hist_boxed W h _ _, ha.on HK0.out⟩
  have HLT := Lib.hid fun w' (k : Kept (fun _ => False) w0 w') => refLight_any h _ _ w' (ha.on (HK0.out.trans k))
  by_cases hlight : h.pl.length ≤ 300 ∧ h.nl.length ≤ 300
  · rw [decide_eq_true hlight] at HLT
    have HF1 := Lib.hid fun w' (k : Kept (fun _ => False) w0 w') => histFit_any h most _ _ w' (ha.on (HK0.out.trans k)) hok (by omega) (by omega)
    obtain ⟨R, E, hfo⟩ := fit_exists h most
    have HFO := Lib.hid hfo
    have hlen := hfo.len
    have HLE := Lib.hid hlen
    have HLI := Lib.hid hlight
    have hcase : (E ≠ 0 ∧ R = zeroH) ∨ (E = 0 ∧ h.err = 0 ∧ ∃ b : Nat, (b : Int) ≤ h.sc + 10 ∧ fits h most b ∧ (∀ a, a < b → ¬ fits h most a) ∧ R = downH h b) := by
      rcases hfo with ⟨h1, h2, h3⟩ | ⟨h1, b, h2, h3, h4, h5, h6⟩ | ⟨h1, h2, h3, h4⟩
      · exact .inl ⟨by omega, h3⟩
      · exact .inr ⟨h6, h1, b, h2, h3, h4, h5⟩
      · exact .inl ⟨by omega, h3⟩
    clear hfo
    rcases hcase with ⟨hE, hR⟩ | ⟨hE, he, b, hb, hfit, hmin, hR⟩
    · have qe : ((E : Int) != 0) = true := bneT (by omega)
      have hsame : sameH R zeroH := (sameH_iff _ _).mpr hR
      have HSM := Lib.hid fun w' p n (k : HistAt w' R p n) => refSame_any R zeroH p n (.slice none 0 0) (.slice none 0 0) w' k (nil_at w') (by have := HLE.out; have := HLI.out; omega) (by have := HLE.out; have := HLI.out; omega)
      rw [decide_eq_true hsame] at HSM
      clear hE hR hsame ha hok hlight hi hlen
      obtain ⟨sc, ze, po, pl, no, nl⟩ := h
      unfold zeroH at HSM
      unfold histV at HLT HF1 HSM ⊢
      simp only at HLT HF1 HSM hw0 ⊢
      go_enter Try.func7, Try.ntmps7
      go_wp2_with (first
      | (have _tok := HK3.out; go_at_call 26; refine (HSM.out _ _ _ HV3.out.at_).mono ?_; rintro e w4 ⟨rfl, k4⟩; have HS4 := Lib.hid k4; have HK4 := Lib.hid (HK3.out.trans k4); clear k4)
      | (have _tok := HK2.out; go_at_call 24; refine (HF1.out w2 HK2.out).mono ?_; rintro e w3 ⟨R', E', hf, pv, nv, rfl, m1, m2, _⟩; obtain ⟨rfl, rfl⟩ := FitOf.uniq HFO.out hf; clear hf; obtain ⟨a3, q3, rfl⟩ := m1.slice; obtain ⟨b3, r3, rfl⟩ := m2.slice; unfold histV; dsimp only; have HS3 := Lib.hid (m1.kept.alloc (.cells #[.int .i64 R.sc, .int .u64 (R.ze : Int), .int .i64 R.po, .slice a3 (uvals R.pl).length q3, .int .i64 R.no, .slice b3 (uvals R.nl).length r3] 27)); have HV3 := Lib.hid (HV.mk' m1 m2); have HK3 := Lib.hid (HK2.out.trans HS3.out); have HV0 := Lib.hid (HV0.out.on HS3.out); obtain ⟨d0, d1, d2, d3, d4, d5⟩ := HV3.out.box.c; obtain ⟨c0, c1, c2, c3, c4, c5⟩ := HV0.out.box.c; clear m1 m2)
      | (have _tok := HK1.out; go_at_call 13; refine (HLT.out w1 HK1.out).mono ?_; rintro e w2 ⟨rfl, k2⟩; have HS2 := Lib.hid k2; have HK2 := Lib.hid (HK1.out.trans k2); have HV0 := Lib.hid (HV0.out.on HS2.out); obtain ⟨c0, c1, c2, c3, c4, c5⟩ := HV0.out.box.c; clear k2)
      | (go_at_call 12; rw [← hw0]; clear hw0; refine (awake8 w0).mono ?_; rintro e w1 ⟨rfl, k1⟩; have HK1 := Lib.hid k1; have HV0 := Lib.hid (HV0.out.on k1); obtain ⟨c0, c1, c2, c3, c4, c5⟩ := HV0.out.box.c; clear k1)
      | fail)
      go_ret
      exact ⟨rfl, HK0.out.trans HK4.out⟩
    · have qe : ((E : Int) != 0) = false := bneF (by omega)
      obtain ⟨n1, n2⟩ := downH_lens h b
      obtain ⟨f1, f2⟩ := hfit
      have hsc : R.sc = h.sc - (b : Int) := by rw [hR]; rfl
      rw [← n1, ← hR] at f1
      rw [← n2, ← hR] at f2
      have g1 : ¬ most < (((uvals R.pl).length : Nat) : Int) := by omega
      have g2 : ¬ most < (((uvals R.nl).length : Nat) : Int) := by omega
      have g3 : ¬ h.sc < R.sc := by omega
      obtain ⟨⟨s1, s2⟩, _⟩ := err_light he
      by_cases hb0 : b = 0
      · have q2 : (R.sc == h.sc) = true := beqT (by omega)
        have hsame : sameH R h := (sameH_iff _ _).mpr (by rw [hR, hb0, downH_zero h he])
        have HSM := Lib.hid fun w' p n p2 n2 (k : HistAt w' R p n) (k2 : HistAt w' h p2 n2) => refSame_any R h p n p2 n2 w' k k2 (by have := HLE.out; have := HLI.out; omega) (by have := HLE.out; have := HLI.out; omega)
        rw [decide_eq_true hsame] at HSM
        clear hE hR hsame ha hok hlight hi hlen n1 n2 f1 f2 hsc s1 s2 hb0 hmin he hb
        obtain ⟨sc, ze, po, pl, no, nl⟩ := h
        unfold histV at HLT HF1 HSM ⊢
        simp only at HLT HF1 HSM hw0 q2 g3 ⊢
        go_enter Try.func7, Try.ntmps7
        go_wp2_with (first
      | (have _tok := HK3.out; go_at_call 26; refine (HSM.out _ _ _ _ _ HV3.out.at_ HV0.out.at_).mono ?_; rintro e w4 ⟨rfl, k4⟩; have HS4 := Lib.hid k4; have HK4 := Lib.hid (HK3.out.trans k4); clear k4)
      | (have _tok := HK2.out; go_at_call 24; refine (HF1.out w2 HK2.out).mono ?_; rintro e w3 ⟨R', E', hf, pv, nv, rfl, m1, m2, _⟩; obtain ⟨rfl, rfl⟩ := FitOf.uniq HFO.out hf; clear hf; obtain ⟨a3, q3, rfl⟩ := m1.slice; obtain ⟨b3, r3, rfl⟩ := m2.slice; unfold histV; dsimp only; have HS3 := Lib.hid (m1.kept.alloc (.cells #[.int .i64 R.sc, .int .u64 (R.ze : Int), .int .i64 R.po, .slice a3 (uvals R.pl).length q3, .int .i64 R.no, .slice b3 (uvals R.nl).length r3] 27)); have HV3 := Lib.hid (HV.mk' m1 m2); have HK3 := Lib.hid (HK2.out.trans HS3.out); have HV0 := Lib.hid (HV0.out.on HS3.out); obtain ⟨d0, d1, d2, d3, d4, d5⟩ := HV3.out.box.c; obtain ⟨c0, c1, c2, c3, c4, c5⟩ := HV0.out.box.c; clear m1 m2)
      | (have _tok := HK1.out; go_at_call 13; refine (HLT.out w1 HK1.out).mono ?_; rintro e w2 ⟨rfl, k2⟩; have HS2 := Lib.hid k2; have HK2 := Lib.hid (HK1.out.trans k2); have HV0 := Lib.hid (HV0.out.on HS2.out); obtain ⟨c0, c1, c2, c3, c4, c5⟩ := HV0.out.box.c; clear k2)
      | (go_at_call 12; rw [← hw0]; clear hw0; refine (awake8 w0).mono ?_; rintro e w1 ⟨rfl, k1⟩; have HK1 := Lib.hid k1; have HV0 := Lib.hid (HV0.out.on k1); obtain ⟨c0, c1, c2, c3, c4, c5⟩ := HV0.out.box.c; clear k1)
      | fail)
        go_ret
        exact ⟨rfl, HK0.out.trans HK4.out⟩
      · have q2 : (R.sc == h.sc) = false := beqF (by omega)
        have t1 : IntKind.i64.wrap (h.sc - R.sc) = h.sc - R.sc := IntWalk.i64_in _ ⟨by omega, by omega⟩
        have t2 : IntKind.i64.wrap (h.sc - R.sc - 1) = h.sc - R.sc - 1 := IntWalk.i64_in _ ⟨by omega, by omega⟩
        have HD := Lib.hid fun w' (k : Kept (fun _ => False) w0 w') => histDown_any h (h.sc - R.sc - 1) _ _ w' (ha.on (HK0.out.trans k)) hok (by omega) (by omega) ⟨by omega, by omega⟩
        have e0 : downE h (h.sc - R.sc - 1) = 0 := downE_mk he (by omega) (by omega)
        have e1 := downR_ok e0
        have e2 : (h.sc - R.sc - 1).toNat = b - 1 := by omega
        rw [e2] at e1
        have hmx := hmin (b - 1) (by omega)
        obtain ⟨m1, m2⟩ := downH_lens h (b - 1)
        obtain ⟨Q, hQ⟩ : ∃ Q, Q = downR h (h.sc - R.sc - 1) := ⟨_, rfl⟩
        rw [e0, ← hQ] at HD
        rw [← hQ] at e1
        unfold fits at hmx
        rw [← m1, ← m2, ← e1] at hmx
        have hor : most < (((uvals Q.pl).length : Nat) : Int) ∨ (¬ most < (((uvals Q.pl).length : Nat) : Int) ∧ most < (((uvals Q.nl).length : Nat) : Int)) := by omega
        clear hE hR ha hok hlight hi hlen n1 n2 f1 f2 hsc hb0 hmin he hb e0 e1 e2 hmx m1 m2 hQ
        obtain ⟨sc, ze, po, pl, no, nl⟩ := h
        unfold histV at HLT HF1 HD ⊢
        simp only at HLT HF1 HD hw0 q2 g3 t1 t2 s1 s2 ⊢
        rcases hor with hor | ⟨hor1, hor⟩
        all_goals
          go_enter Try.func7, Try.ntmps7
          go_wp2_with (first
      | (have _tok := HK3.out; go_at_call 22; refine (HD.out _ HK3.out).mono ?_; rintro e w4 ⟨pv, nv, rfl, m1, m2, _⟩; obtain ⟨a4, q4, rfl⟩ := m1.slice; obtain ⟨b4, r4, rfl⟩ := m2.slice; unfold histV; dsimp only; have HS4 := Lib.hid (m1.kept.alloc (.cells #[.int .i64 Q.sc, .int .u64 (Q.ze : Int), .int .i64 Q.po, .slice a4 (uvals Q.pl).length q4, .int .i64 Q.no, .slice b4 (uvals Q.nl).length r4] 27)); have HV4 := Lib.hid (HV.mk' m1 m2); have HK4 := Lib.hid (HK3.out.trans HS4.out); obtain ⟨d0, d1, d2, d3, d4, d5⟩ := HV4.out.box.c; clear m1 m2)
      | (have _tok := HK2.out; go_at_call 24; refine (HF1.out w2 HK2.out).mono ?_; rintro e w3 ⟨R', E', hf, pv, nv, rfl, m1, m2, _⟩; obtain ⟨rfl, rfl⟩ := FitOf.uniq HFO.out hf; clear hf; obtain ⟨a3, q3, rfl⟩ := m1.slice; obtain ⟨b3, r3, rfl⟩ := m2.slice; unfold histV; dsimp only; have HS3 := Lib.hid (m1.kept.alloc (.cells #[.int .i64 R.sc, .int .u64 (R.ze : Int), .int .i64 R.po, .slice a3 (uvals R.pl).length q3, .int .i64 R.no, .slice b3 (uvals R.nl).length r3] 27)); have HV3 := Lib.hid (HV.mk' m1 m2); have HK3 := Lib.hid (HK2.out.trans HS3.out); have HV0 := Lib.hid (HV0.out.on HS3.out); obtain ⟨d0, d1, d2, d3, d4, d5⟩ := HV3.out.box.c; obtain ⟨c0, c1, c2, c3, c4, c5⟩ := HV0.out.box.c; clear m1 m2)
      | (have _tok := HK1.out; go_at_call 13; refine (HLT.out w1 HK1.out).mono ?_; rintro e w2 ⟨rfl, k2⟩; have HS2 := Lib.hid k2; have HK2 := Lib.hid (HK1.out.trans k2); have HV0 := Lib.hid (HV0.out.on HS2.out); obtain ⟨c0, c1, c2, c3, c4, c5⟩ := HV0.out.box.c; clear k2)
      | (go_at_call 12; rw [← hw0]; clear hw0; refine (awake8 w0).mono ?_; rintro e w1 ⟨rfl, k1⟩; have HK1 := Lib.hid k1; have HV0 := Lib.hid (HV0.out.on k1); obtain ⟨c0, c1, c2, c3, c4, c5⟩ := HV0.out.box.c; clear k1)
      | fail)
          go_ret
          exact ⟨rfl, HK0.out.trans HK4.out⟩
  · rw [decide_eq_false hlight] at HLT
    clear ha hok hlight hi
    obtain ⟨sc, ze, po, pl, no, nl⟩ := h
    unfold histV at HLT ⊢
    simp only at HLT hw0 ⊢
    go_enter Try.func7, Try.ntmps7
    go_wp2_with (first
      | (have _tok := HK1.out; go_at_call 13; refine (HLT.out w1 HK1.out).mono ?_; rintro e w2 ⟨rfl, k2⟩; have HS2 := Lib.hid k2; have HK2 := Lib.hid (HK1.out.trans k2); have HV0 := Lib.hid (HV0.out.on HS2.out); obtain ⟨c0, c1, c2, c3, c4, c5⟩ := HV0.out.box.c; clear k2)
      | (go_at_call 12; rw [← hw0]; clear hw0; refine (awake8 w0).mono ?_; rintro e w1 ⟨rfl, k1⟩; have HK1 := Lib.hid k1; have HV0 := Lib.hid (HV0.out.on k1); obtain ⟨c0, c1, c2, c3, c4, c5⟩ := HV0.out.box.c; clear k1)
      | fail)
    go_ret
    exact ⟨rfl, HK0.out.trans HK2.out⟩
end Go.Proofs.Ytbjpcddnjndjlaa
