/- Layer 8: the walk of HistTwice. -/
import Derived.Test.YtbjpcddnjndjlaaKA
namespace Go.Proofs.Ytbjpcddnjndjlaa
open Go.RowKit
attribute [local go_sem ↓] Go.wp_at_zero Go.wp_at_succ

set_option maxRecDepth 100000 in
theorem histTwice_out (h : HistV) (pv nv : Value) (a b ix : Int) (W : World) (hi : HistIn W h pv nv) (hr : ¬ (h.pl.length ≤ 300 ∧ h.nl.length ≤ 300) ∨ a < 0 ∨ b < 0 ∨ 100 < a ∨ 100 < b ∨ 1099511627776 < ix ∨ ix < -1099511627776) :
    Calls Try.prog 6 #[histV h pv nv, .int .i64 a, .int .i64 b, .int .i64 ix] W fun e w' => e = .returned (.bool true) ∧ Kept (fun _ => False) W w' := by
  have ha := hi.at_
  obtain ⟨⟨ao, c, rfl⟩, bo, d, rfl⟩ := ha.sl
  obtain ⟨w0, hw0⟩ : ∃ w0, w0 = W.alloc (.cells #[.int .i64 h.sc, .int .u64 (h.ze : Int), .int .i64 h.po, .slice ao h.pl.length c, .int .i64 h.no, .slice bo h.nl.length d] 27) := ⟨_, rfl⟩
  have HK0 : Hid (Kept (fun _ => False) W w0) := Lib.hid (by rw [hw0]; exact (Kept.refl _ _).alloc _)
  have HV0 : Hid (HV w0 W.heap.size h (.slice ao h.pl.length c) (.slice bo h.nl.length d)) := Lib.hid ⟨by rw [hw0]; exact hist_boxed W h _ _, ha.on HK0.out⟩
  have HLT := Lib.hid fun w' (k : Kept (fun _ => False) w0 w') => refLight_any h _ _ w' (ha.on (HK0.out.trans k))
  by_cases hlight : h.pl.length ≤ 300 ∧ h.nl.length ≤ 300
  · rw [decide_eq_true hlight] at HLT
    have hr' : a < 0 ∨ (¬ a < 0 ∧ b < 0) ∨ (¬ a < 0 ∧ ¬ b < 0 ∧ 100 < a) ∨ (¬ a < 0 ∧ ¬ b < 0 ∧ ¬ 100 < a ∧ 100 < b) ∨ (¬ a < 0 ∧ ¬ b < 0 ∧ ¬ 100 < a ∧ ¬ 100 < b ∧ 1099511627776 < ix) ∨ (¬ a < 0 ∧ ¬ b < 0 ∧ ¬ 100 < a ∧ ¬ 100 < b ∧ ¬ 1099511627776 < ix ∧ ix < -1099511627776) := by
      rcases hr with h | h
      · exact absurd hlight h
      · omega
    clear ha hlight hi hr
    obtain ⟨sc, ze, po, pl, no, nl⟩ := h
    unfold histV at HLT ⊢
    simp only at HLT hw0 ⊢
    rcases hr' with h | ⟨h1, h⟩ | ⟨h1, h2, h⟩ | ⟨h1, h2, h3, h⟩ | ⟨h1, h2, h3, h4, h⟩ | ⟨h1, h2, h3, h4, h5, h⟩
    all_goals
      go_enter Try.func6, Try.ntmps6
      go_wp2_with (first
      | (have _tok := HK1.out; go_at_call 13; refine (HLT.out w1 HK1.out).mono ?_; rintro e w2 ⟨rfl, k2⟩; have HS2 := Lib.hid k2; have HK2 := Lib.hid (HK1.out.trans k2); have HV0 := Lib.hid (HV0.out.on HS2.out); obtain ⟨c0, c1, c2, c3, c4, c5⟩ := HV0.out.box.c; clear k2)
      | (go_at_call 12; rw [← hw0]; clear hw0; refine (awake8 w0).mono ?_; rintro e w1 ⟨rfl, k1⟩; have HK1 := Lib.hid k1; have HV0 := Lib.hid (HV0.out.on k1); obtain ⟨c0, c1, c2, c3, c4, c5⟩ := HV0.out.box.c; clear k1)
      | fail)
      go_ret
      exact ⟨rfl, HK0.out.trans HK2.out⟩
  · rw [decide_eq_false hlight] at HLT
    clear ha hlight hi hr
    obtain ⟨sc, ze, po, pl, no, nl⟩ := h
    unfold histV at HLT ⊢
    simp only at HLT hw0 ⊢
    go_enter Try.func6, Try.ntmps6
    go_wp2_with (first
      | (have _tok := HK1.out; go_at_call 13; refine (HLT.out w1 HK1.out).mono ?_; rintro e w2 ⟨rfl, k2⟩; have HS2 := Lib.hid k2; have HK2 := Lib.hid (HK1.out.trans k2); have HV0 := Lib.hid (HV0.out.on HS2.out); obtain ⟨c0, c1, c2, c3, c4, c5⟩ := HV0.out.box.c; clear k2)
      | (go_at_call 12; rw [← hw0]; clear hw0; refine (awake8 w0).mono ?_; rintro e w1 ⟨rfl, k1⟩; have HK1 := Lib.hid k1; have HV0 := Lib.hid (HV0.out.on k1); obtain ⟨c0, c1, c2, c3, c4, c5⟩ := HV0.out.box.c; clear k1)
      | fail)
    go_ret
    exact ⟨rfl, HK0.out.trans HK2.out⟩

set_option maxHeartbeats 4000000 in
set_option maxRecDepth 100000 in
theorem histTwice_walk (h : HistV) (pv nv : Value) (a b ix : Int) (W : World) (hi : HistIn W h pv nv) (hba : -9223372036854775808 ≤ a ∧ a ≤ 9223372036854775807) (hbb : -9223372036854775808 ≤ b ∧ b ≤ 9223372036854775807) (_ : -9223372036854775808 ≤ ix ∧ ix ≤ 9223372036854775807) :
    Calls Try.prog 6 #[histV h pv nv, .int .i64 a, .int .i64 b, .int .i64 ix] W fun e w' => e = .returned (.bool true) ∧ Kept (fun _ => False) W w' := by
  by_cases hr : ¬ (h.pl.length ≤ 300 ∧ h.nl.length ≤ 300) ∨ a < 0 ∨ b < 0 ∨ 100 < a ∨ 100 < b ∨ 1099511627776 < ix ∨ ix < -1099511627776
  · exact histTwice_out h pv nv a b ix W hi hr
  have hl1 : h.pl.length ≤ 300 := by omega
  have hl2 : h.nl.length ≤ 300 := by omega
  have g1 : 0 ≤ a := by omega
  have g2 : 0 ≤ b := by omega
  have g3 : a ≤ 100 := by omega
  have g4 : b ≤ 100 := by omega
  have g5 : ix ≤ 1099511627776 := by omega
  have g6 : -1099511627776 ≤ ix := by omega
  clear hr hba hbb
  have ha := hi.at_
  have hok := hi.ok
  obtain ⟨⟨ao, c, rfl⟩, bo, d, rfl⟩ := ha.sl
  obtain ⟨w0, hw0⟩ : ∃ w0, w0 = W.alloc (.cells #[.int .i64 h.sc, .int .u64 (h.ze : Int), .int .i64 h.po, .slice ao h.pl.length c, .int .i64 h.no, .slice bo h.nl.length d] 27) := ⟨_, rfl⟩
  have HK0 : Hid (Kept (fun _ => False) W w0) := Lib.hid (by rw [hw0]; exact (Kept.refl _ _).alloc _)
  have HV0 : Hid (HV w0 W.heap.size h (.slice ao h.pl.length c) (.slice bo h.nl.length d)) := Lib.hid ⟨by rw [hw0]; exact hist_boxed W h _ _, ha.on HK0.out⟩
  have HLT := Lib.hid fun w' (k : Kept (fun _ => False) w0 w') => refLight_any h _ _ w' (ha.on (HK0.out.trans k))
  rw [decide_eq_true ⟨hl1, hl2⟩] at HLT
  have la := downR_len h a
  have HD1 := Lib.hid fun w' (k : Kept (fun _ => False) w0 w') => histDown_any h a _ _ w' (ha.on (HK0.out.trans k)) hok (by omega) (by omega) ⟨by omega, by omega⟩
  have HD2 := Lib.hid fun w' pv nv (k : HistAt w' (downR h a) pv nv) => histDown_any (downR h a) b pv nv w' k (downR_ok' h a hok) (by omega) (by omega) ⟨by omega, by omega⟩
  have HD3 := Lib.hid fun w' (k : Kept (fun _ => False) w0 w') => histDown_any h (a + b) _ _ w' (ha.on (HK0.out.trans k)) hok (by omega) (by omega) ⟨by omega, by omega⟩
  have hbad := twice_bad h a b g1 g2
  have hgood := twice_ok h a b
  have lc := downR_len h (a + b)
  have okc := downR_ok' h (a + b) hok
  obtain ⟨Ra, hRa⟩ : ∃ R, R = downR h a := ⟨_, rfl⟩
  obtain ⟨Ea, hEa⟩ : ∃ E, E = downE h a := ⟨_, rfl⟩
  rw [← hRa] at HD2 hbad hgood
  rw [← hRa, ← hEa] at HD1
  rw [← hEa] at hbad hgood
  obtain ⟨Rb, hRb⟩ : ∃ R, R = downR Ra b := ⟨_, rfl⟩
  obtain ⟨Eb, hEb⟩ : ∃ E, E = downE Ra b := ⟨_, rfl⟩
  rw [← hRb, ← hEb] at HD2
  rw [← hEb] at hbad
  rw [← hRb, ← hEb] at hgood
  obtain ⟨Rc, hRc⟩ : ∃ R, R = downR h (a + b) := ⟨_, rfl⟩
  obtain ⟨Ec, hEc⟩ : ∃ E, E = downE h (a + b) := ⟨_, rfl⟩
  rw [← hRc, ← hEc] at HD3
  rw [← hEc] at hbad
  rw [← hRc, ← hEc] at hgood
  rw [← hRc] at lc okc
  have sw : IntKind.i64.wrap (a + b) = a + b := IntWalk.i64_in _ ⟨by omega, by omega⟩
  by_cases hE : Ea ≠ 0 ∨ Eb ≠ 0
  · have hc := hbad hE
    have qc : ((Ec : Int) != 0) = true := bneT (by omega)
    have hE' : Ea ≠ 0 ∨ (Ea = 0 ∧ Eb ≠ 0) := by omega
    clear hbad hgood hE hc hRa hEa hRb hEb hRc hEc ha hok hi hl1 hl2 la lc okc
    obtain ⟨sc, ze, po, pl, no, nl⟩ := h
    unfold histV at HLT HD1 HD2 HD3 ⊢
    simp only at HLT HD1 HD2 HD3 hw0 ⊢
    rcases hE' with hE | ⟨hE, hE2⟩
    · have qa : ((Ea : Int) != 0) = true := bneT (by omega)
      clear hE
      go_enter Try.func6, Try.ntmps6
      go_wp2_with (first
      | (have _tok := HK4.out; go_at_call 22; refine (HD3.out _ HK4.out).mono ?_; rintro e w5 ⟨pv, nv, rfl, m1, m2, _⟩; obtain ⟨a5, q5, rfl⟩ := m1.slice; obtain ⟨b5, r5, rfl⟩ := m2.slice; unfold histV; dsimp only; have HS5 := Lib.hid (m1.kept.alloc (.cells #[.int .i64 Rc.sc, .int .u64 (Rc.ze : Int), .int .i64 Rc.po, .slice a5 (uvals Rc.pl).length q5, .int .i64 Rc.no, .slice b5 (uvals Rc.nl).length r5] 27)); have HV5 := Lib.hid (HV.mk' m1 m2); have HK5 := Lib.hid (HK4.out.trans HS5.out); have HV0 := Lib.hid (HV0.out.on HS5.out); have HV3 := Lib.hid (HV3.out.on HS5.out); have HV4 := Lib.hid (HV4.out.on HS5.out); obtain ⟨c0, c1, c2, c3, c4, c5⟩ := HV0.out.box.c; obtain ⟨d0, d1, d2, d3, d4, d5⟩ := HV5.out.box.c; clear m1 m2)
      | (have _tok := HK3.out; go_at_call 22; refine (HD2.out _ _ _ HV3.out.at_).mono ?_; rintro e w4 ⟨pv, nv, rfl, m1, m2, _⟩; obtain ⟨a4, q4, rfl⟩ := m1.slice; obtain ⟨b4, r4, rfl⟩ := m2.slice; unfold histV; dsimp only; have HS4 := Lib.hid (m1.kept.alloc (.cells #[.int .i64 Rb.sc, .int .u64 (Rb.ze : Int), .int .i64 Rb.po, .slice a4 (uvals Rb.pl).length q4, .int .i64 Rb.no, .slice b4 (uvals Rb.nl).length r4] 27)); have HV4 := Lib.hid (HV.mk' m1 m2); have HK4 := Lib.hid (HK3.out.trans HS4.out); have HV0 := Lib.hid (HV0.out.on HS4.out); have HV3 := Lib.hid (HV3.out.on HS4.out); obtain ⟨c0, c1, c2, c3, c4, c5⟩ := HV0.out.box.c; clear m1 m2)
      | (have _tok := HK2.out; go_at_call 22; refine (HD1.out w2 HK2.out).mono ?_; rintro e w3 ⟨pv, nv, rfl, m1, m2, _⟩; obtain ⟨a3, q3, rfl⟩ := m1.slice; obtain ⟨b3, r3, rfl⟩ := m2.slice; unfold histV; dsimp only; have HS3 := Lib.hid (m1.kept.alloc (.cells #[.int .i64 Ra.sc, .int .u64 (Ra.ze : Int), .int .i64 Ra.po, .slice a3 (uvals Ra.pl).length q3, .int .i64 Ra.no, .slice b3 (uvals Ra.nl).length r3] 27)); have HV3 := Lib.hid (HV.mk' m1 m2); have HK3 := Lib.hid (HK2.out.trans HS3.out); have HV0 := Lib.hid (HV0.out.on HS3.out); obtain ⟨d0, d1, d2, d3, d4, d5⟩ := HV3.out.box.c; clear m1 m2)
      | (have _tok := HK1.out; go_at_call 13; refine (HLT.out w1 HK1.out).mono ?_; rintro e w2 ⟨rfl, k2⟩; have HS2 := Lib.hid k2; have HK2 := Lib.hid (HK1.out.trans k2); have HV0 := Lib.hid (HV0.out.on HS2.out); obtain ⟨c0, c1, c2, c3, c4, c5⟩ := HV0.out.box.c; clear k2)
      | (go_at_call 12; rw [← hw0]; clear hw0; refine (awake8 w0).mono ?_; rintro e w1 ⟨rfl, k1⟩; have HK1 := Lib.hid k1; have HV0 := Lib.hid (HV0.out.on k1); obtain ⟨c0, c1, c2, c3, c4, c5⟩ := HV0.out.box.c; clear k1)
      | fail)
      go_ret
      exact ⟨rfl, HK0.out.trans HK5.out⟩
    · have qa : ((Ea : Int) != 0) = false := bneF (by omega)
      have qb : ((Eb : Int) != 0) = true := bneT (by omega)
      clear hE hE2
      go_enter Try.func6, Try.ntmps6
      go_wp2_with (first
      | (have _tok := HK4.out; go_at_call 22; refine (HD3.out _ HK4.out).mono ?_; rintro e w5 ⟨pv, nv, rfl, m1, m2, _⟩; obtain ⟨a5, q5, rfl⟩ := m1.slice; obtain ⟨b5, r5, rfl⟩ := m2.slice; unfold histV; dsimp only; have HS5 := Lib.hid (m1.kept.alloc (.cells #[.int .i64 Rc.sc, .int .u64 (Rc.ze : Int), .int .i64 Rc.po, .slice a5 (uvals Rc.pl).length q5, .int .i64 Rc.no, .slice b5 (uvals Rc.nl).length r5] 27)); have HV5 := Lib.hid (HV.mk' m1 m2); have HK5 := Lib.hid (HK4.out.trans HS5.out); have HV0 := Lib.hid (HV0.out.on HS5.out); have HV3 := Lib.hid (HV3.out.on HS5.out); have HV4 := Lib.hid (HV4.out.on HS5.out); obtain ⟨c0, c1, c2, c3, c4, c5⟩ := HV0.out.box.c; obtain ⟨d0, d1, d2, d3, d4, d5⟩ := HV5.out.box.c; clear m1 m2)
      | (have _tok := HK3.out; go_at_call 22; refine (HD2.out _ _ _ HV3.out.at_).mono ?_; rintro e w4 ⟨pv, nv, rfl, m1, m2, _⟩; obtain ⟨a4, q4, rfl⟩ := m1.slice; obtain ⟨b4, r4, rfl⟩ := m2.slice; unfold histV; dsimp only; have HS4 := Lib.hid (m1.kept.alloc (.cells #[.int .i64 Rb.sc, .int .u64 (Rb.ze : Int), .int .i64 Rb.po, .slice a4 (uvals Rb.pl).length q4, .int .i64 Rb.no, .slice b4 (uvals Rb.nl).length r4] 27)); have HV4 := Lib.hid (HV.mk' m1 m2); have HK4 := Lib.hid (HK3.out.trans HS4.out); have HV0 := Lib.hid (HV0.out.on HS4.out); have HV3 := Lib.hid (HV3.out.on HS4.out); obtain ⟨c0, c1, c2, c3, c4, c5⟩ := HV0.out.box.c; clear m1 m2)
      | (have _tok := HK2.out; go_at_call 22; refine (HD1.out w2 HK2.out).mono ?_; rintro e w3 ⟨pv, nv, rfl, m1, m2, _⟩; obtain ⟨a3, q3, rfl⟩ := m1.slice; obtain ⟨b3, r3, rfl⟩ := m2.slice; unfold histV; dsimp only; have HS3 := Lib.hid (m1.kept.alloc (.cells #[.int .i64 Ra.sc, .int .u64 (Ra.ze : Int), .int .i64 Ra.po, .slice a3 (uvals Ra.pl).length q3, .int .i64 Ra.no, .slice b3 (uvals Ra.nl).length r3] 27)); have HV3 := Lib.hid (HV.mk' m1 m2); have HK3 := Lib.hid (HK2.out.trans HS3.out); have HV0 := Lib.hid (HV0.out.on HS3.out); obtain ⟨d0, d1, d2, d3, d4, d5⟩ := HV3.out.box.c; clear m1 m2)
      | (have _tok := HK1.out; go_at_call 13; refine (HLT.out w1 HK1.out).mono ?_; rintro e w2 ⟨rfl, k2⟩; have HS2 := Lib.hid k2; have HK2 := Lib.hid (HK1.out.trans k2); have HV0 := Lib.hid (HV0.out.on HS2.out); obtain ⟨c0, c1, c2, c3, c4, c5⟩ := HV0.out.box.c; clear k2)
      | (go_at_call 12; rw [← hw0]; clear hw0; refine (awake8 w0).mono ?_; rintro e w1 ⟨rfl, k1⟩; have HK1 := Lib.hid k1; have HV0 := Lib.hid (HV0.out.on k1); obtain ⟨c0, c1, c2, c3, c4, c5⟩ := HV0.out.box.c; clear k1)
      | fail)
      go_ret
      exact ⟨rfl, HK0.out.trans HK5.out⟩
  · obtain ⟨hc, hR, herr, htot⟩ := hgood (by omega) (by omega)
    subst hR
    have qa : ((Ea : Int) != 0) = false := bneF (by omega)
    have qb : ((Eb : Int) != 0) = false := bneF (by omega)
    have qc : ((Ec : Int) != 0) = false := bneF (by omega)
    have he : h.err = 0 := (downE_zero (h := h) (b := a) (by omega)).1
    obtain ⟨_, _, _, htl⟩ := err_light he
    have HT1 := Lib.hid fun w' (k : Kept (fun _ => False) w0 w') => histTotal_any h _ _ w' (ha.on (HK0.out.trans k)) hok.ze (by omega) (by omega) hok.pl hok.nl
    have HT2 := Lib.hid fun w' pv nv (k : HistAt w' Rb pv nv) => histTotal_any Rb pv nv w' k okc.ze (by omega) (by omega) okc.pl okc.nl
    have HSM := Lib.hid fun w' p1 n1 p2 n2 (k1 : HistAt w' Rb p1 n1) (k2 : HistAt w' Rb p2 n2) => refSame_any Rb Rb p1 n1 p2 n2 w' k1 k2 (by omega) (by omega)
    have HCK := Lib.hid fun w' pv nv (k : HistAt w' Rb pv nv) => histCheck_any Rb pv nv w' k okc (by omega) (by omega)
    rw [herr] at HCK
    have e1 : totV h = .tuple #[.int .u64 (h.total : Int), .bool true] := by unfold totV; rw [if_pos htl, decide_eq_true htl]
    have e2 : totV Rb = .tuple #[.int .u64 (h.total : Int), .bool true] := by unfold totV; rw [htot, if_pos htl, decide_eq_true htl]
    rw [e1] at HT1
    rw [e2] at HT2
    have hsb : sameH Rb Rb := (sameH_iff _ _).mpr rfl
    rw [decide_eq_true hsb] at HSM
    have hd1 := downR_len h 1
    have HD4 := Lib.hid fun w' (k : Kept (fun _ => False) w0 w') => histDown_any h 1 _ _ w' (ha.on (HK0.out.trans k)) hok (by omega) (by omega) ⟨by omega, by omega⟩
    have hob := @one_bad h
    have hoo := @one_ok h
    have ok1 := downR_ok' h 1 hok
    obtain ⟨tp, tn⟩ := total_parts htl
    have up1 := atN_pair h.po ix h.pl
    have up2 := atN_pair h.no ix h.nl
    obtain ⟨P, hP⟩ : ∃ R, R = downR h 1 := ⟨_, rfl⟩
    obtain ⟨Ep, hEp⟩ : ∃ E, E = downE h 1 := ⟨_, rfl⟩
    rw [← hP, ← hEp] at HD4 hoo
    rw [← hEp] at hob
    rw [← hP] at hd1 ok1
    obtain ⟨T, hT⟩ : ∃ T, T = h.total := ⟨_, rfl⟩
    rw [← hT] at HT1 HT2
    have qT : ((T : Int) != (T : Int)) = false := bneF rfl
    have HAP := Lib.hid fun w' v (k : SlAt w' v (uvals P.pl)) => histAt_any P.po ix P.pl v w' k ok1.po ⟨by omega, by omega⟩ (by omega)
    have HAN := Lib.hid fun w' v (k : SlAt w' v (uvals P.nl)) => histAt_any P.no ix P.nl v w' k ok1.no ⟨by omega, by omega⟩ (by omega)
    have HP0 := Lib.hid fun w' v (k : SlAt w' v (uvals h.pl)) => histAt_any h.po (2 * ix) h.pl v w' k hok.po ⟨by omega, by omega⟩ (by omega)
    have HP1 := Lib.hid fun w' v (k : SlAt w' v (uvals h.pl)) => histAt_any h.po (2 * ix + 1) h.pl v w' k hok.po ⟨by omega, by omega⟩ (by omega)
    have HN0 := Lib.hid fun w' v (k : SlAt w' v (uvals h.nl)) => histAt_any h.no (2 * ix) h.nl v w' k hok.no ⟨by omega, by omega⟩ (by omega)
    have HN1 := Lib.hid fun w' v (k : SlAt w' v (uvals h.nl)) => histAt_any h.no (2 * ix + 1) h.nl v w' k hok.no ⟨by omega, by omega⟩ (by omega)
    have t1 : IntKind.i64.wrap (2 * ix) = 2 * ix := IntWalk.i64_in _ ⟨by omega, by omega⟩
    have t2 : IntKind.i64.wrap (2 * ix + 1) = 2 * ix + 1 := IntWalk.i64_in _ ⟨by omega, by omega⟩
    by_cases hp : Ep = 0
    · obtain ⟨o1, o2⟩ := hoo hp ix
      obtain ⟨X1, hX1⟩ : ∃ X, X = atN P.po P.pl ix := ⟨_, rfl⟩
      obtain ⟨X2, hX2⟩ : ∃ X, X = atN h.po h.pl (2 * ix) := ⟨_, rfl⟩
      obtain ⟨X3, hX3⟩ : ∃ X, X = atN h.po h.pl (2 * ix + 1) := ⟨_, rfl⟩
      obtain ⟨Y1, hY1⟩ : ∃ X, X = atN P.no P.nl ix := ⟨_, rfl⟩
      obtain ⟨Y2, hY2⟩ : ∃ X, X = atN h.no h.nl (2 * ix) := ⟨_, rfl⟩
      obtain ⟨Y3, hY3⟩ : ∃ X, X = atN h.no h.nl (2 * ix + 1) := ⟨_, rfl⟩
      rw [← hX1, ← hX2, ← hX3] at o1
      rw [← hY1, ← hY2, ← hY3] at o2
      rw [← hX2, ← hX3] at up1
      rw [← hY2, ← hY3] at up2
      rw [← hX1] at HAP
      rw [← hX2] at HP0
      rw [← hX3] at HP1
      rw [← hY1] at HAN
      rw [← hY2] at HN0
      rw [← hY3] at HN1
      have ux : IntKind.u64.wrap ((X2 : Int) + (X3 : Int)) = (X1 : Int) := by rw [IntKind.wrap_u64]; omega
      have uy : IntKind.u64.wrap ((Y2 : Int) + (Y3 : Int)) = (Y1 : Int) := by rw [IntKind.wrap_u64]; omega
      have qx : ((X1 : Int) == (X1 : Int)) = true := beqT rfl
      have qy : ((Y1 : Int) == (Y1 : Int)) = true := beqT rfl
      have qp : ((Ep : Int) != 0) = false := bneF (by omega)
      clear o1 o2 hX1 hX2 hX3 hY1 hY2 hY3 hp up1 up2 hbad hgood hE hc hRa hEa hRb hEb hRc hEc ha hok hi hl1 hl2 la lc okc hP hEp hT e1 e2 hsb htl htot herr he tp tn hob hoo ok1 hd1
      obtain ⟨sc, ze, po, pl, no, nl⟩ := h
      unfold histV at HLT HD1 HD2 HD3 HT1 HT2 HSM HCK HD4 ⊢
      simp only at HLT HD1 HD2 HD3 HT1 HT2 HSM HCK HD4 HP0 HP1 HN0 HN1 hw0 ⊢
      go_enter Try.func6, Try.ntmps6
      go_wp2_with (first
      | (have _tok := HK9.out; go_at_call 22; refine (HD4.out _ HK9.out).mono ?_; rintro e w10 ⟨pv, nv, rfl, m1, m2, _⟩; obtain ⟨a10, q10, rfl⟩ := m1.slice; obtain ⟨b10, r10, rfl⟩ := m2.slice; unfold histV; dsimp only; have HS10 := Lib.hid (m1.kept.alloc (.cells #[.int .i64 P.sc, .int .u64 (P.ze : Int), .int .i64 P.po, .slice a10 (uvals P.pl).length q10, .int .i64 P.no, .slice b10 (uvals P.nl).length r10] 27)); have HV10 := Lib.hid (HV.mk' m1 m2); have HK10 := Lib.hid (HK9.out.trans HS10.out); have HV0 := Lib.hid (HV0.out.on HS10.out); obtain ⟨c0, c1, c2, c3, c4, c5⟩ := HV0.out.box.c; obtain ⟨d0, d1, d2, d3, d4, d5⟩ := HV10.out.box.c; clear m1 m2)
      | (have _tok := HK8.out; go_at_call 16; refine (HCK.out _ _ _ HV5.out.at_).mono ?_; rintro e w9 ⟨rfl, k9⟩; have HS9 := Lib.hid k9; have HK9 := Lib.hid (HK8.out.trans k9); have HV0 := Lib.hid (HV0.out.on HS9.out); obtain ⟨c0, c1, c2, c3, c4, c5⟩ := HV0.out.box.c; clear k9)
      | (have _tok := HK7.out; go_at_call 26; refine (HSM.out _ _ _ _ _ HV4.out.at_ HV5.out.at_).mono ?_; rintro e w8 ⟨rfl, k8⟩; have HS8 := Lib.hid k8; have HK8 := Lib.hid (HK7.out.trans k8); have HV0 := Lib.hid (HV0.out.on HS8.out); have HV5 := Lib.hid (HV5.out.on HS8.out); obtain ⟨d0, d1, d2, d3, d4, d5⟩ := HV5.out.box.c; clear k8)
      | (have _tok := HK6.out; go_at_call 14; refine (HT2.out _ _ _ HV5.out.at_).mono ?_; rintro e w7 ⟨rfl, k7⟩; have HS7 := Lib.hid k7; have HK7 := Lib.hid (HK6.out.trans k7); have HV0 := Lib.hid (HV0.out.on HS7.out); have HV4 := Lib.hid (HV4.out.on HS7.out); have HV5 := Lib.hid (HV5.out.on HS7.out); obtain ⟨e0, e1, e2, e3, e4, e5⟩ := HV4.out.box.c; obtain ⟨d0, d1, d2, d3, d4, d5⟩ := HV5.out.box.c; clear k7)
      | (have _tok := HK5.out; go_at_call 14; refine (HT1.out _ HK5.out).mono ?_; rintro e w6 ⟨rfl, k6⟩; have HS6 := Lib.hid k6; have HK6 := Lib.hid (HK5.out.trans k6); have HV0 := Lib.hid (HV0.out.on HS6.out); have HV4 := Lib.hid (HV4.out.on HS6.out); have HV5 := Lib.hid (HV5.out.on HS6.out); obtain ⟨d0, d1, d2, d3, d4, d5⟩ := HV5.out.box.c; clear k6)
      | (have _tok := HK4.out; go_at_call 22; refine (HD3.out _ HK4.out).mono ?_; rintro e w5 ⟨pv, nv, rfl, m1, m2, _⟩; obtain ⟨a5, q5, rfl⟩ := m1.slice; obtain ⟨b5, r5, rfl⟩ := m2.slice; unfold histV; dsimp only; have HS5 := Lib.hid (m1.kept.alloc (.cells #[.int .i64 Rb.sc, .int .u64 (Rb.ze : Int), .int .i64 Rb.po, .slice a5 (uvals Rb.pl).length q5, .int .i64 Rb.no, .slice b5 (uvals Rb.nl).length r5] 27)); have HV5 := Lib.hid (HV.mk' m1 m2); have HK5 := Lib.hid (HK4.out.trans HS5.out); have HV0 := Lib.hid (HV0.out.on HS5.out); have HV3 := Lib.hid (HV3.out.on HS5.out); have HV4 := Lib.hid (HV4.out.on HS5.out); obtain ⟨c0, c1, c2, c3, c4, c5⟩ := HV0.out.box.c; obtain ⟨d0, d1, d2, d3, d4, d5⟩ := HV5.out.box.c; clear m1 m2)
      | (have _tok := HK3.out; go_at_call 22; refine (HD2.out _ _ _ HV3.out.at_).mono ?_; rintro e w4 ⟨pv, nv, rfl, m1, m2, _⟩; obtain ⟨a4, q4, rfl⟩ := m1.slice; obtain ⟨b4, r4, rfl⟩ := m2.slice; unfold histV; dsimp only; have HS4 := Lib.hid (m1.kept.alloc (.cells #[.int .i64 Rb.sc, .int .u64 (Rb.ze : Int), .int .i64 Rb.po, .slice a4 (uvals Rb.pl).length q4, .int .i64 Rb.no, .slice b4 (uvals Rb.nl).length r4] 27)); have HV4 := Lib.hid (HV.mk' m1 m2); have HK4 := Lib.hid (HK3.out.trans HS4.out); have HV0 := Lib.hid (HV0.out.on HS4.out); have HV3 := Lib.hid (HV3.out.on HS4.out); obtain ⟨c0, c1, c2, c3, c4, c5⟩ := HV0.out.box.c; clear m1 m2)
      | (have _tok := HK2.out; go_at_call 22; refine (HD1.out w2 HK2.out).mono ?_; rintro e w3 ⟨pv, nv, rfl, m1, m2, _⟩; obtain ⟨a3, q3, rfl⟩ := m1.slice; obtain ⟨b3, r3, rfl⟩ := m2.slice; unfold histV; dsimp only; have HS3 := Lib.hid (m1.kept.alloc (.cells #[.int .i64 Ra.sc, .int .u64 (Ra.ze : Int), .int .i64 Ra.po, .slice a3 (uvals Ra.pl).length q3, .int .i64 Ra.no, .slice b3 (uvals Ra.nl).length r3] 27)); have HV3 := Lib.hid (HV.mk' m1 m2); have HK3 := Lib.hid (HK2.out.trans HS3.out); have HV0 := Lib.hid (HV0.out.on HS3.out); obtain ⟨d0, d1, d2, d3, d4, d5⟩ := HV3.out.box.c; clear m1 m2)
      | (have _tok := HK1.out; go_at_call 13; refine (HLT.out w1 HK1.out).mono ?_; rintro e w2 ⟨rfl, k2⟩; have HS2 := Lib.hid k2; have HK2 := Lib.hid (HK1.out.trans k2); have HV0 := Lib.hid (HV0.out.on HS2.out); obtain ⟨c0, c1, c2, c3, c4, c5⟩ := HV0.out.box.c; clear k2)
      | (go_at_call 12; rw [← hw0]; clear hw0; refine (awake8 w0).mono ?_; rintro e w1 ⟨rfl, k1⟩; have HK1 := Lib.hid k1; have HV0 := Lib.hid (HV0.out.on k1); obtain ⟨c0, c1, c2, c3, c4, c5⟩ := HV0.out.box.c; clear k1)
      | fail)
      obtain ⟨wR, hwR⟩ : ∃ w', w' = (w10.alloc (.cells #[.int .i64 P.sc, .int .u64 (P.ze : Int), .int .i64 P.po, .slice a10 (uvals P.pl).length q10, .int .i64 P.no, .slice b10 (uvals P.nl).length r10] 27)) := ⟨_, rfl⟩
      rw [← hwR] at HV0 HV10 HK10
      rw [← hwR]
      have HKD := Lib.hid (show Kept (fun _ => False) wR wR.drew from (Kept.refl _ _).drew)
      have HV0 := Lib.hid (HV0.out.on HKD.out)
      have HV10 := Lib.hid (HV10.out.on HKD.out)
      have HSD := Lib.hid (And.intro HV0.out.box.c.2.2 HV10.out.box.c.2.2)
      have HK10 := Lib.hid (HK10.out.trans HKD.out)
      clear hwR
      go_region_held3 (fun w' => (w'.cell? ⟨W.heap.size, 2, none⟩ = some (.int .i64 po) ∧ w'.cell? ⟨W.heap.size, 3, none⟩ = some (.slice ao pl.length c) ∧ w'.cell? ⟨W.heap.size, 4, none⟩ = some (.int .i64 no) ∧ w'.cell? ⟨W.heap.size, 5, none⟩ = some (.slice bo nl.length d)) ∧ w'.cell? ⟨w10.heap.size, 2, none⟩ = some (.int .i64 P.po) ∧ w'.cell? ⟨w10.heap.size, 3, none⟩ = some (.slice a10 (uvals P.pl).length q10) ∧ w'.cell? ⟨w10.heap.size, 4, none⟩ = some (.int .i64 P.no) ∧ w'.cell? ⟨w10.heap.size, 5, none⟩ = some (.slice b10 (uvals P.nl).length r10)) (first | (with_reducible exact HSD.out) | (with_reducible exact HSE11.out) | (with_reducible exact HSE12.out) | (with_reducible exact HSE13.out) | (with_reducible exact HSE14.out) | (with_reducible exact HSE15.out) | (with_reducible exact HSE16.out))
        (first
      | (have _tok := HK15.out; go_at_call 18; refine (HN1.out _ _ HV0.out.at_.n).mono ?_; rintro e w16 ⟨rfl, k16⟩; have HS16 := Lib.hid k16; have HK16 := Lib.hid (HK15.out.trans k16); have HV0 := Lib.hid (HV0.out.on HS16.out); have HV10 := Lib.hid (HV10.out.on HS16.out); clear k16; have HSE16 := Lib.hid (And.intro HV0.out.box.c.2.2 HV10.out.box.c.2.2))
      | (have _tok := HK14.out; go_at_call 18; refine (HN0.out _ _ HV0.out.at_.n).mono ?_; rintro e w15 ⟨rfl, k15⟩; have HS15 := Lib.hid k15; have HK15 := Lib.hid (HK14.out.trans k15); have HV0 := Lib.hid (HV0.out.on HS15.out); have HV10 := Lib.hid (HV10.out.on HS15.out); clear k15; have HSE15 := Lib.hid (And.intro HV0.out.box.c.2.2 HV10.out.box.c.2.2))
      | (have _tok := HK13.out; go_at_call 18; refine (HAN.out _ _ HV10.out.at_.n).mono ?_; rintro e w14 ⟨rfl, k14⟩; have HS14 := Lib.hid k14; have HK14 := Lib.hid (HK13.out.trans k14); have HV0 := Lib.hid (HV0.out.on HS14.out); have HV10 := Lib.hid (HV10.out.on HS14.out); clear k14; have HSE14 := Lib.hid (And.intro HV0.out.box.c.2.2 HV10.out.box.c.2.2))
      | (have _tok := HK12.out; go_at_call 18; refine (HP1.out _ _ HV0.out.at_.p).mono ?_; rintro e w13 ⟨rfl, k13⟩; have HS13 := Lib.hid k13; have HK13 := Lib.hid (HK12.out.trans k13); have HV0 := Lib.hid (HV0.out.on HS13.out); have HV10 := Lib.hid (HV10.out.on HS13.out); clear k13; have HSE13 := Lib.hid (And.intro HV0.out.box.c.2.2 HV10.out.box.c.2.2))
      | (have _tok := HK11.out; go_at_call 18; refine (HP0.out _ _ HV0.out.at_.p).mono ?_; rintro e w12 ⟨rfl, k12⟩; have HS12 := Lib.hid k12; have HK12 := Lib.hid (HK11.out.trans k12); have HV0 := Lib.hid (HV0.out.on HS12.out); have HV10 := Lib.hid (HV10.out.on HS12.out); clear k12; have HSE12 := Lib.hid (And.intro HV0.out.box.c.2.2 HV10.out.box.c.2.2))
      | (have _tok := HK10.out; go_at_call 18; refine (HAP.out _ _ HV10.out.at_.p).mono ?_; rintro e w11 ⟨rfl, k11⟩; have HS11 := Lib.hid k11; have HK11 := Lib.hid (HK10.out.trans k11); have HV0 := Lib.hid (HV0.out.on HS11.out); have HV10 := Lib.hid (HV10.out.on HS11.out); clear k11; have HSE11 := Lib.hid (And.intro HV0.out.box.c.2.2 HV10.out.box.c.2.2))
      | fail)
      go_wp2
      go_ret
      exact ⟨rfl, HK0.out.trans HK16.out⟩
    · have hsc := hob hp he
      have qp : ((Ep : Int) != 0) = true := bneT (by omega)
      have qs : (h.sc == -10) = true := beqT hsc
      clear hp hsc up1 up2 hbad hgood hE hc hRa hEa hRb hEb hRc hEc ha hok hi hl1 hl2 la lc okc hP hEp hT e1 e2 hsb htl htot herr he tp tn hob hoo ok1 hd1
      obtain ⟨sc, ze, po, pl, no, nl⟩ := h
      unfold histV at HLT HD1 HD2 HD3 HT1 HT2 HSM HCK HD4 ⊢
      simp only at HLT HD1 HD2 HD3 HT1 HT2 HSM HCK HD4 hw0 qs ⊢
      go_enter Try.func6, Try.ntmps6
      go_wp2_with (first
      | (have _tok := HK9.out; go_at_call 22; refine (HD4.out _ HK9.out).mono ?_; rintro e w10 ⟨pv, nv, rfl, m1, m2, _⟩; obtain ⟨a10, q10, rfl⟩ := m1.slice; obtain ⟨b10, r10, rfl⟩ := m2.slice; unfold histV; dsimp only; have HS10 := Lib.hid (m1.kept.alloc (.cells #[.int .i64 P.sc, .int .u64 (P.ze : Int), .int .i64 P.po, .slice a10 (uvals P.pl).length q10, .int .i64 P.no, .slice b10 (uvals P.nl).length r10] 27)); have HV10 := Lib.hid (HV.mk' m1 m2); have HK10 := Lib.hid (HK9.out.trans HS10.out); have HV0 := Lib.hid (HV0.out.on HS10.out); obtain ⟨c0, c1, c2, c3, c4, c5⟩ := HV0.out.box.c; obtain ⟨d0, d1, d2, d3, d4, d5⟩ := HV10.out.box.c; clear m1 m2)
      | (have _tok := HK8.out; go_at_call 16; refine (HCK.out _ _ _ HV5.out.at_).mono ?_; rintro e w9 ⟨rfl, k9⟩; have HS9 := Lib.hid k9; have HK9 := Lib.hid (HK8.out.trans k9); have HV0 := Lib.hid (HV0.out.on HS9.out); obtain ⟨c0, c1, c2, c3, c4, c5⟩ := HV0.out.box.c; clear k9)
      | (have _tok := HK7.out; go_at_call 26; refine (HSM.out _ _ _ _ _ HV4.out.at_ HV5.out.at_).mono ?_; rintro e w8 ⟨rfl, k8⟩; have HS8 := Lib.hid k8; have HK8 := Lib.hid (HK7.out.trans k8); have HV0 := Lib.hid (HV0.out.on HS8.out); have HV5 := Lib.hid (HV5.out.on HS8.out); obtain ⟨d0, d1, d2, d3, d4, d5⟩ := HV5.out.box.c; clear k8)
      | (have _tok := HK6.out; go_at_call 14; refine (HT2.out _ _ _ HV5.out.at_).mono ?_; rintro e w7 ⟨rfl, k7⟩; have HS7 := Lib.hid k7; have HK7 := Lib.hid (HK6.out.trans k7); have HV0 := Lib.hid (HV0.out.on HS7.out); have HV4 := Lib.hid (HV4.out.on HS7.out); have HV5 := Lib.hid (HV5.out.on HS7.out); obtain ⟨e0, e1, e2, e3, e4, e5⟩ := HV4.out.box.c; obtain ⟨d0, d1, d2, d3, d4, d5⟩ := HV5.out.box.c; clear k7)
      | (have _tok := HK5.out; go_at_call 14; refine (HT1.out _ HK5.out).mono ?_; rintro e w6 ⟨rfl, k6⟩; have HS6 := Lib.hid k6; have HK6 := Lib.hid (HK5.out.trans k6); have HV0 := Lib.hid (HV0.out.on HS6.out); have HV4 := Lib.hid (HV4.out.on HS6.out); have HV5 := Lib.hid (HV5.out.on HS6.out); obtain ⟨d0, d1, d2, d3, d4, d5⟩ := HV5.out.box.c; clear k6)
      | (have _tok := HK4.out; go_at_call 22; refine (HD3.out _ HK4.out).mono ?_; rintro e w5 ⟨pv, nv, rfl, m1, m2, _⟩; obtain ⟨a5, q5, rfl⟩ := m1.slice; obtain ⟨b5, r5, rfl⟩ := m2.slice; unfold histV; dsimp only; have HS5 := Lib.hid (m1.kept.alloc (.cells #[.int .i64 Rb.sc, .int .u64 (Rb.ze : Int), .int .i64 Rb.po, .slice a5 (uvals Rb.pl).length q5, .int .i64 Rb.no, .slice b5 (uvals Rb.nl).length r5] 27)); have HV5 := Lib.hid (HV.mk' m1 m2); have HK5 := Lib.hid (HK4.out.trans HS5.out); have HV0 := Lib.hid (HV0.out.on HS5.out); have HV3 := Lib.hid (HV3.out.on HS5.out); have HV4 := Lib.hid (HV4.out.on HS5.out); obtain ⟨c0, c1, c2, c3, c4, c5⟩ := HV0.out.box.c; obtain ⟨d0, d1, d2, d3, d4, d5⟩ := HV5.out.box.c; clear m1 m2)
      | (have _tok := HK3.out; go_at_call 22; refine (HD2.out _ _ _ HV3.out.at_).mono ?_; rintro e w4 ⟨pv, nv, rfl, m1, m2, _⟩; obtain ⟨a4, q4, rfl⟩ := m1.slice; obtain ⟨b4, r4, rfl⟩ := m2.slice; unfold histV; dsimp only; have HS4 := Lib.hid (m1.kept.alloc (.cells #[.int .i64 Rb.sc, .int .u64 (Rb.ze : Int), .int .i64 Rb.po, .slice a4 (uvals Rb.pl).length q4, .int .i64 Rb.no, .slice b4 (uvals Rb.nl).length r4] 27)); have HV4 := Lib.hid (HV.mk' m1 m2); have HK4 := Lib.hid (HK3.out.trans HS4.out); have HV0 := Lib.hid (HV0.out.on HS4.out); have HV3 := Lib.hid (HV3.out.on HS4.out); obtain ⟨c0, c1, c2, c3, c4, c5⟩ := HV0.out.box.c; clear m1 m2)
      | (have _tok := HK2.out; go_at_call 22; refine (HD1.out w2 HK2.out).mono ?_; rintro e w3 ⟨pv, nv, rfl, m1, m2, _⟩; obtain ⟨a3, q3, rfl⟩ := m1.slice; obtain ⟨b3, r3, rfl⟩ := m2.slice; unfold histV; dsimp only; have HS3 := Lib.hid (m1.kept.alloc (.cells #[.int .i64 Ra.sc, .int .u64 (Ra.ze : Int), .int .i64 Ra.po, .slice a3 (uvals Ra.pl).length q3, .int .i64 Ra.no, .slice b3 (uvals Ra.nl).length r3] 27)); have HV3 := Lib.hid (HV.mk' m1 m2); have HK3 := Lib.hid (HK2.out.trans HS3.out); have HV0 := Lib.hid (HV0.out.on HS3.out); obtain ⟨d0, d1, d2, d3, d4, d5⟩ := HV3.out.box.c; clear m1 m2)
      | (have _tok := HK1.out; go_at_call 13; refine (HLT.out w1 HK1.out).mono ?_; rintro e w2 ⟨rfl, k2⟩; have HS2 := Lib.hid k2; have HK2 := Lib.hid (HK1.out.trans k2); have HV0 := Lib.hid (HV0.out.on HS2.out); obtain ⟨c0, c1, c2, c3, c4, c5⟩ := HV0.out.box.c; clear k2)
      | (go_at_call 12; rw [← hw0]; clear hw0; refine (awake8 w0).mono ?_; rintro e w1 ⟨rfl, k1⟩; have HK1 := Lib.hid k1; have HV0 := Lib.hid (HV0.out.on k1); obtain ⟨c0, c1, c2, c3, c4, c5⟩ := HV0.out.box.c; clear k1)
      | fail)
      go_ret
      exact ⟨rfl, HK0.out.trans HK10.out⟩
end Go.Proofs.Ytbjpcddnjndjlaa
