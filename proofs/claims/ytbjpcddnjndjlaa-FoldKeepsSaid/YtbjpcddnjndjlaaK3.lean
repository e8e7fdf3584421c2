/- Layer 8: the walk of HistDowns. -/
import Derived.Test.YtbjpcddnjndjlaaK2
namespace Go.Proofs.Ytbjpcddnjndjlaa
open Go.RowKit
attribute [local go_sem ↓] Go.wp_at_zero Go.wp_at_succ

/-- A histogram in a block, its counts where it says. -/
structure HV (w : World) (q : Nat) (R : HistV) (pv nv : Value) : Prop where
  box : HistBox w q R pv nv
  at_ : HistAt w R pv nv
theorem HV.on {w w' : World} {q : Nat} {R : HistV} {pv nv : Value} (h : HV w q R pv nv) (k : Kept (fun _ => False) w w') : HV w' q R pv nv := ⟨h.box.same k (fun x => x), h.at_.on k⟩
theorem HV.mk' {W w : World} {R : HistV} {pv nv : Value} (h1 : Mine W w 22 pv (uvals R.pl)) (h2 : Mine W w 22 nv (uvals R.nl)) : HV (w.alloc (.cells #[.int .i64 R.sc, .int .u64 (R.ze : Int), .int .i64 R.po, pv, .int .i64 R.no, nv] 27)) w.heap.size R pv nv :=
  ⟨hist_boxed w R pv nv, (HistAt.mk h1.at_ h2.at_).on ((Kept.refl _ _).alloc _)⟩
theorem downH_len (h : HistV) (b : Nat) : (downH h b).pl.length ≤ h.pl.length ∧ (downH h b).nl.length ≤ h.nl.length := by
  unfold downH
  simp only [downL_length]
  exact ⟨dWidth_le _ _ _, dWidth_le _ _ _⟩
theorem downR_len (h : HistV) (b : Int) : (downR h b).pl.length ≤ h.pl.length ∧ (downR h b).nl.length ≤ h.nl.length := by
  unfold downR
  split
  · exact downH_len h _
  · unfold zeroH; simp
theorem FitOf.len {h : HistV} {most : Int} {R : HistV} {E : Nat} (f : FitOf h most R E) : R.pl.length ≤ h.pl.length ∧ R.nl.length ≤ h.nl.length := by
  rcases f with ⟨_, _, rfl⟩ | ⟨_, b, _, _, _, rfl, _⟩ | ⟨_, _, rfl, _⟩
  · unfold zeroH; simp
  · exact downH_len h b
  · unfold zeroH; simp

set_option maxHeartbeats 4000000 in
set_option maxRecDepth 100000 in
theorem histDowns_walk (h : HistV) (pv nv : Value) (by_ most : Int) (W : World) (hi : HistIn W h pv nv) (hb : -9223372036854775808 ≤ by_ ∧ by_ ≤ 9223372036854775807) (_ : -9223372036854775808 ≤ most ∧ most ≤ 9223372036854775807) :
    Calls Try.prog 5 #[histV h pv nv, .int .i64 by_, .int .i64 most] W fun e w' => e = .returned (.bool true) ∧ Kept (fun _ => False) W w' := by
  have ha := hi.at_
  have hok := hi.ok
  have hcp := hi.cp
  have hcn := hi.cn
  obtain ⟨⟨ao, c, rfl⟩, bo, d, rfl⟩ := ha.sl
  obtain ⟨w0, hw0⟩ : ∃ w0, w0 = W.alloc (.cells #[.int .i64 h.sc, .int .u64 (h.ze : Int), .int .i64 h.po, .slice ao h.pl.length c, .int .i64 h.no, .slice bo h.nl.length d] 27) := ⟨_, rfl⟩
  have HBX : Hid (HistBox w0 W.heap.size h (.slice ao h.pl.length c) (.slice bo h.nl.length d)) := Lib.hid (by rw [hw0]; exact hist_boxed W h _ _)
  have HK0 : Hid (Kept (fun _ => False) W w0) := Lib.hid (by rw [hw0]; exact (Kept.refl _ _).alloc _)
  have HLT := Lib.hid fun w' (k : Kept (fun _ => False) w0 w') => refLight_any h _ _ w' (ha.on (HK0.out.trans k))
  by_cases hlight : h.pl.length ≤ 300 ∧ h.nl.length ≤ 300
  · rw [decide_eq_true hlight] at HLT
    have HD1 := Lib.hid fun w' (k : Kept (fun _ => False) w0 w') => histDown_any h by_ _ _ w' (ha.on (HK0.out.trans k)) hok (by omega) (by omega) hb
    have HD2 := Lib.hid fun w' (k : Kept (fun _ => False) w0 w') => refDown_any h by_ _ _ w' (ha.on (HK0.out.trans k)) hok (by omega) (by omega) hb hcp hcn
    have HF1 := Lib.hid fun w' (k : Kept (fun _ => False) w0 w') => histFit_any h most _ _ w' (ha.on (HK0.out.trans k)) hok (by omega) (by omega)
    have HF2 := Lib.hid fun w' (k : Kept (fun _ => False) w0 w') => refFit_any h most _ _ w' (ha.on (HK0.out.trans k)) hok (by omega) (by omega) hcp hcn
    have HL1 := Lib.hid (downR_len h by_)
    have HL2 := Lib.hid fun R E (f : FitOf h most R E) => f.len
    have HLI := Lib.hid hlight
    obtain ⟨R, hR⟩ : ∃ R, R = downR h by_ := ⟨_, rfl⟩
    obtain ⟨E, hE⟩ : ∃ E, E = downE h by_ := ⟨_, rfl⟩
    rw [← hR, ← hE] at HD1 HD2
    rw [← hR] at HL1
    have q1 : ((E : Int) == (E : Int)) = true := beqT rfl
    clear hR hE ha hok hcp hcn hlight hi hb
    obtain ⟨sc, ze, po, pl, no, nl⟩ := h
    unfold histV at HLT HD1 HD2 HF1 HF2 ⊢
    simp only at HLT HD1 HD2 HF1 HF2 HL1 HL2 HLI hw0 ⊢
    go_enter Try.func5, Try.ntmps5
    go_wp2_with (first
      | (have _tok := HK7.out; go_at_call 26; refine (refSame_any R5 R6 _ _ _ _ w7 (HV5.out.on (HP6.out.trans HP7.out)).at_ (HV6.out.on HP7.out).at_ (by have := (HL2.out _ _ HFO5.out).1; have := HLI.out.1; omega) (by have := (HL2.out _ _ HFO5.out).2; have := HLI.out.2; omega)).mono ?_; rintro e w8 ⟨rfl, k8⟩; rw [decide_eq_true ((sameH_iff _ _).mpr (FitOf.uniq HFO5.out HFO6.out).1)]; have HK8 := Lib.hid (HK7.out.trans k8); clear k8)
      | (have _tok := HK6.out; go_at_call 26; refine (refSame_any R R _ _ _ _ (w6.alloc (.cells #[.int .i64 R6.sc, .int .u64 (R6.ze : Int), .int .i64 R6.po, .slice a6 (uvals R6.pl).length q6, .int .i64 R6.no, .slice b6 (uvals R6.nl).length r6] 27)) (HV3.out.on ((HP4.out.trans HP5.out).trans HP6.out)).at_ (HV4.out.on (HP5.out.trans HP6.out)).at_ (by have := HL1.out.1; have := HLI.out.1; omega) (by have := HL1.out.2; have := HLI.out.2; omega)).mono ?_; rintro e w7 ⟨rfl, k7⟩; rw [decide_eq_true ((sameH_iff _ _).mpr rfl)]; have HK7 := Lib.hid (HK6.out.trans k7); have HP7 := Lib.hid k7; obtain ⟨d0, d1, d2, d3, d4, d5⟩ := (HV5.out.on (HP6.out.trans k7)).box.c; obtain ⟨e0, e1, e2, e3, e4, e5⟩ := (HV6.out.on k7).box.c; have q2 : ((E5 : Int) == (E6 : Int)) = true := beqT (by have := (FitOf.uniq HFO5.out HFO6.out).2; omega); clear k7)
      | (have _tok := HK5.out; go_at_call 25; refine (HF2.out (w5.alloc (.cells #[.int .i64 R5.sc, .int .u64 (R5.ze : Int), .int .i64 R5.po, .slice a5 (uvals R5.pl).length q5, .int .i64 R5.no, .slice b5 (uvals R5.nl).length r5] 27)) HK5.out).mono ?_; rintro e w6 ⟨R6, E6, hf, pv, nv, rfl, m1, m2, _⟩; have HFO6 := Lib.hid hf; obtain ⟨a6, q6, rfl⟩ := m1.slice; obtain ⟨b6, r6, rfl⟩ := m2.slice; unfold histV; dsimp only; have HV6 := Lib.hid (HV.mk' m1 m2); have HK6 := Lib.hid ((HK5.out.trans m1.kept).alloc (.cells #[.int .i64 R6.sc, .int .u64 (R6.ze : Int), .int .i64 R6.po, .slice a6 (uvals R6.pl).length q6, .int .i64 R6.no, .slice b6 (uvals R6.nl).length r6] 27)); obtain ⟨c0, c1, c2, c3, c4, c5⟩ := (HBX.out.same HK6.out (fun x => x)).c; have HP6 := Lib.hid (m1.kept.alloc (.cells #[.int .i64 R6.sc, .int .u64 (R6.ze : Int), .int .i64 R6.po, .slice a6 (uvals R6.pl).length q6, .int .i64 R6.no, .slice b6 (uvals R6.nl).length r6] 27)); clear m1 m2 hf; obtain ⟨d0, d1, d2, d3, d4, d5⟩ := (HV3.out.on ((HP4.out.trans HP5.out).trans HP6.out)).box.c; obtain ⟨e0, e1, e2, e3, e4, e5⟩ := (HV4.out.on (HP5.out.trans HP6.out)).box.c)
      | (have _tok := HK4.out; go_at_call 24; refine (HF1.out (w4.alloc (.cells #[.int .i64 R.sc, .int .u64 (R.ze : Int), .int .i64 R.po, .slice a4 (uvals R.pl).length q4, .int .i64 R.no, .slice b4 (uvals R.nl).length r4] 27)) HK4.out).mono ?_; rintro e w5 ⟨R5, E5, hf, pv, nv, rfl, m1, m2, _⟩; have HFO5 := Lib.hid hf; obtain ⟨a5, q5, rfl⟩ := m1.slice; obtain ⟨b5, r5, rfl⟩ := m2.slice; unfold histV; dsimp only; have HV5 := Lib.hid (HV.mk' m1 m2); have HK5 := Lib.hid ((HK4.out.trans m1.kept).alloc (.cells #[.int .i64 R5.sc, .int .u64 (R5.ze : Int), .int .i64 R5.po, .slice a5 (uvals R5.pl).length q5, .int .i64 R5.no, .slice b5 (uvals R5.nl).length r5] 27)); obtain ⟨c0, c1, c2, c3, c4, c5⟩ := (HBX.out.same HK5.out (fun x => x)).c; have HP5 := Lib.hid (m1.kept.alloc (.cells #[.int .i64 R5.sc, .int .u64 (R5.ze : Int), .int .i64 R5.po, .slice a5 (uvals R5.pl).length q5, .int .i64 R5.no, .slice b5 (uvals R5.nl).length r5] 27)); clear m1 m2 hf)
      | (have _tok := HK3.out; go_at_call 23; refine (HD2.out (w3.alloc (.cells #[.int .i64 R.sc, .int .u64 (R.ze : Int), .int .i64 R.po, .slice a3 (uvals R.pl).length q3, .int .i64 R.no, .slice b3 (uvals R.nl).length r3] 27)) HK3.out).mono ?_; rintro e w4 ⟨pv, nv, rfl, m1, m2, _⟩; obtain ⟨a4, q4, rfl⟩ := m1.slice; obtain ⟨b4, r4, rfl⟩ := m2.slice; unfold histV; dsimp only; have HV4 := Lib.hid (HV.mk' m1 m2); have HK4 := Lib.hid ((HK3.out.trans m1.kept).alloc (.cells #[.int .i64 R.sc, .int .u64 (R.ze : Int), .int .i64 R.po, .slice a4 (uvals R.pl).length q4, .int .i64 R.no, .slice b4 (uvals R.nl).length r4] 27)); obtain ⟨c0, c1, c2, c3, c4, c5⟩ := (HBX.out.same HK4.out (fun x => x)).c; have HP4 := Lib.hid (m1.kept.alloc (.cells #[.int .i64 R.sc, .int .u64 (R.ze : Int), .int .i64 R.po, .slice a4 (uvals R.pl).length q4, .int .i64 R.no, .slice b4 (uvals R.nl).length r4] 27)); clear m1 m2)
      | (have _tok := HK2.out; go_at_call 22; refine (HD1.out w2 HK2.out).mono ?_; rintro e w3 ⟨pv, nv, rfl, m1, m2, _⟩; obtain ⟨a3, q3, rfl⟩ := m1.slice; obtain ⟨b3, r3, rfl⟩ := m2.slice; unfold histV; dsimp only; have HV3 := Lib.hid (HV.mk' m1 m2); have HK3 := Lib.hid ((HK2.out.trans m1.kept).alloc (.cells #[.int .i64 R.sc, .int .u64 (R.ze : Int), .int .i64 R.po, .slice a3 (uvals R.pl).length q3, .int .i64 R.no, .slice b3 (uvals R.nl).length r3] 27)); obtain ⟨c0, c1, c2, c3, c4, c5⟩ := (HBX.out.same HK3.out (fun x => x)).c; have HP3 := Lib.hid (m1.kept.alloc (.cells #[.int .i64 R.sc, .int .u64 (R.ze : Int), .int .i64 R.po, .slice a3 (uvals R.pl).length q3, .int .i64 R.no, .slice b3 (uvals R.nl).length r3] 27)); clear m1 m2)
      | (go_at_call 13; refine (HLT.out w1 HK1.out).mono ?_; rintro e w2 ⟨rfl, k2⟩; have HK2 := Lib.hid (HK1.out.trans k2); obtain ⟨c0, c1, c2, c3, c4, c5⟩ := (HBX.out.same HK2.out (fun x => x)).c; clear k2)
      | (go_at_call 12; rw [← hw0]; clear hw0; refine (awake8 w0).mono ?_; rintro e w1 ⟨rfl, k1⟩; have HK1 := Lib.hid k1; obtain ⟨c0, c1, c2, c3, c4, c5⟩ := (HBX.out.same HK1.out (fun x => x)).c; clear k1)
      | fail)
    go_ret
    exact ⟨rfl, HK0.out.trans HK8.out⟩
  · rw [decide_eq_false hlight] at HLT
    clear ha hok hlight hi hcp hcn hb
    obtain ⟨sc, ze, po, pl, no, nl⟩ := h
    unfold histV at HLT ⊢
    simp only at HLT hw0 ⊢
    go_enter Try.func5, Try.ntmps5
    go_wp2_with (first
      | (go_at_call 12; rw [← hw0]; clear hw0; refine (awake8 w0).mono ?_; rintro e w1 ⟨rfl, k1⟩; have HK1 := Lib.hid k1; obtain ⟨c0, c1, c2, c3, c4, c5⟩ := (HBX.out.same HK1.out (fun x => x)).c; clear k1)
      | (go_at_call 13; refine (HLT.out w1 HK1.out).mono ?_; rintro e w2 ⟨rfl, k2⟩; have HK2 := Lib.hid (HK1.out.trans k2); clear k2)
      | fail)
    go_ret
    exact ⟨rfl, HK0.out.trans HK2.out⟩
end Go.Proofs.Ytbjpcddnjndjlaa
