/- The document's Level. -/
import Derived.Test.YtbjpcddnjndjlaaE2
namespace Go.Proofs.Ytbjpcddnjndjlaa
open Go.RowKit
attribute [local go_sem ↓] Go.wp_at_zero Go.wp_at_succ

set_option maxHeartbeats 4000000 in
set_option maxRecDepth 100000 in
theorem refLevel_any (a b : HistV) (ap an bp bn : Value) (w : World) (ha : HistIn w a ap an) (hb : HistIn w b bp bn) (la1 : a.pl.length ≤ 1000000) (la2 : a.nl.length ≤ 1000000) (lb1 : b.pl.length ≤ 1000000) (lb2 : b.nl.length ≤ 1000000) :
    Calls Try.prog 29 #[histV a ap an, histV b bp bn] w (PairOut w (levX a b) (levY a b) (levE a b)) := by
  obtain ⟨⟨ao, c, rfl⟩, a1, c1, rfl⟩ := ha.at_.sl
  obtain ⟨⟨bo, d, rfl⟩, b1, d1, rfl⟩ := hb.at_.sl
  have hlb := PairLB.mk0 w a b (.slice ao a.pl.length c) (.slice a1 a.nl.length c1) (.slice bo b.pl.length d) (.slice b1 b.nl.length d1)
  obtain ⟨w0, hw0⟩ : ∃ w0, w0 = (((w.alloc (.cells #[.int .i64 a.sc, .int .u64 (a.ze : Int), .int .i64 a.po, .slice ao a.pl.length c, .int .i64 a.no, .slice a1 a.nl.length c1] 27)).alloc (.cells #[.int .i64 b.sc, .int .u64 (b.ze : Int), .int .i64 b.po, .slice bo b.pl.length d, .int .i64 b.no, .slice b1 b.nl.length d1] 27)).alloc zPair) := ⟨_, rfl⟩
  rw [← hw0] at hlb
  unfold zPair at hw0
  have k0 : Kept (fun _ => False) w w0 := by rw [hw0]; exact (((Kept.refl _ w).alloc _).alloc _).alloc _
  have HK0 := Lib.hid k0
  have HLB := Lib.hid hlb
  have HCA1 := Lib.hid (refCheck_any a _ _ w0 (ha.at_.on k0) ha.ok la1 la2)
  have HCB := Lib.hid fun w' (k : Kept (fun _ => False) w w') => refCheck_any b _ _ w' (hb.at_.on k) hb.ok lb1 lb2
  have HBAD := Lib.hid fun w' E (hE : levE a b = E) (h0 : E ≠ 0) (k : Kept (fun _ => False) w w') => pair_bad_out hE h0 k
  have HLE := Lib.hid (show levE a b = if a.err ≠ 0 then a.err else b.err from rfl)
  have oka := ha.ok
  have okb := hb.ok
  obtain ⟨Ea, hEa⟩ : ∃ E, E = a.err := ⟨_, rfl⟩
  obtain ⟨Eb, hEb⟩ : ∃ E, E = b.err := ⟨_, rfl⟩
  rw [← hEa] at HCA1 HLE
  rw [← hEb] at HCB HLE
  obtain ⟨X, hX⟩ : ∃ X, X = levX a b := ⟨_, rfl⟩
  obtain ⟨Y, hY⟩ : ∃ Y, Y = levY a b := ⟨_, rfl⟩
  have HD1 : Hid (Ea = 0 → Eb = 0 → ∀ w', Kept (fun _ => False) w w' → Calls Try.prog 23 #[histV a (.slice ao a.pl.length c) (.slice a1 a.nl.length c1), .int .i64 (a.sc - levS a b)] w' (HistOut w' X 0)) := Lib.hid fun e1 e2 w' k => by
    obtain ⟨g1, g2, g3, g4, g5⟩ := lev_good (a := a) (b := b) (by omega) (by omega)
    have := refDown_any a (a.sc - levS a b) _ _ w' (ha.at_.on k) oka la1 la2 (by have h1 := err_light (h := a) (by omega); have h2 := err_light (h := b) (by omega); have := levS_min a b; unfold I64; omega) ha.cp ha.cn
    rw [g2, ← g4, ← hX] at this
    exact this
  have HD2 : Hid (Ea = 0 → Eb = 0 → ∀ w', Kept (fun _ => False) w w' → Calls Try.prog 23 #[histV b (.slice bo b.pl.length d) (.slice b1 b.nl.length d1), .int .i64 (b.sc - levS a b)] w' (HistOut w' Y 0)) := Lib.hid fun e1 e2 w' k => by
    obtain ⟨g1, g2, g3, g4, g5⟩ := lev_good (a := a) (b := b) (by omega) (by omega)
    have := refDown_any b (b.sc - levS a b) _ _ w' (hb.at_.on k) okb lb1 lb2 (by have h1 := err_light (h := a) (by omega); have h2 := err_light (h := b) (by omega); have := levS_min a b; unfold I64; omega) hb.cp hb.cn
    rw [g3, ← g5, ← hY] at this
    exact this
  have HSC : Hid (Ea = 0 → Eb = 0 → (-10 ≤ a.sc ∧ a.sc ≤ 20) ∧ (-10 ≤ b.sc ∧ b.sc ≤ 20) ∧ levE a b = 0) := Lib.hid fun e1 e2 => ⟨(err_light (by omega)).1, (err_light (by omega)).1, (lev_good (by omega) (by omega)).1⟩
  have hsm := levS_min a b
  obtain ⟨S, hS⟩ : ∃ S, S = levS a b := ⟨_, rfl⟩
  rw [← hS] at HD1 HD2 hsm
  have HSM := Lib.hid hsm
  rw [← hX, ← hY] at HBAD ⊢
  obtain ⟨EL, hEL⟩ : ∃ E, E = levE a b := ⟨_, rfl⟩
  rw [← hEL] at HBAD HLE HSC ⊢
  clear hX hY hEL hEa hEb ha hb oka okb la1 la2 lb1 lb2 hlb k0 hS hsm
  obtain ⟨asc, aze, apo, apl, ano, anl⟩ := a
  obtain ⟨bsc, bze, bpo, bpl, bno, bnl⟩ := b
  unfold histV at HCA1 HCB HD1 HD2 ⊢
  simp only at HCA1 HCB HD1 HD2 HSC HSM hw0 ⊢
  rw [hw0] at HCA1
  have HW0 := Lib.hid hw0
  clear hw0
  by_cases z1 : Ea = 0
  · have q1 : ((Ea : Int) != 0) = false := bneF (by omega)
    by_cases z2 : Eb = 0
    · have q2 : ((Eb : Int) != 0) = false := bneF (by omega)
      obtain ⟨⟨s1, s2⟩, ⟨s3, s4⟩, hz⟩ := HSC.out z1 z2
      have HZ := Lib.hid hz
      have HD1 := Lib.hid (HD1.out z1 z2)
      have HD2 := Lib.hid (HD2.out z1 z2)
      clear z1 z2 hz
      by_cases hle : bsc < asc
      · obtain rfl : S = bsc := by have := HSM.out; omega
        have t1 : IntKind.i64.wrap (asc - S) = asc - S := IntWalk.i64_in _ ⟨by omega, by omega⟩
        have HD2' := HD2.out
        rw [Int.sub_self] at HD2'
        have HD2 := Lib.hid HD2'
        clear HD2'
        go_enter Try.func29, Try.ntmps29
        go_wp2_with fail
        refine HCA1.out.mono ?_
        rintro e w1 ⟨rfl, k1⟩
        rw [← HW0.out] at k1
        have HK1 := Lib.hid k1
        have HLB1 := Lib.hid (HLB.out.on HK1.out)
        clear k1
        obtain ⟨vb0, vb1, vb2, vb3, vb4, vb5⟩ := HLB1.out.b.c
        go_wp2_with fail
        refine (HCB.out _ (HK0.out.trans HK1.out)).mono ?_
        rintro e w2 ⟨rfl, k2⟩
        have HK2 := Lib.hid (HK1.out.trans k2)
        have HLB2 := Lib.hid (HLB.out.on HK2.out)
        clear k2
        obtain ⟨va0, va1, va2, va3, va4, va5⟩ := HLB2.out.a.c
        obtain ⟨vb0, vb1, vb2, vb3, vb4, vb5⟩ := HLB2.out.b.c
        go_wp2_with fail
        refine (HD1.out _ (HK0.out.trans HK2.out)).mono ?_
        rintro e w3 ⟨pv, nv, rfl, m1, m2, _⟩
        obtain ⟨a4, q4, rfl⟩ := m1.slice
        obtain ⟨b4, r4, rfl⟩ := m2.slice
        unfold histV
        dsimp only
        have HK3 := Lib.hid ((HK2.out.trans m1.kept).alloc (.cells #[.int .i64 X.sc, .int .u64 (X.ze : Int), .int .i64 X.po, .slice a4 (uvals X.pl).length q4, .int .i64 X.no, .slice b4 (uvals X.nl).length r4] 27))
        have HM1 := Lib.hid (And.intro ((m1.down (HK0.out.trans HK2.out)).alloc (.cells #[.int .i64 X.sc, .int .u64 (X.ze : Int), .int .i64 X.po, .slice a4 (uvals X.pl).length q4, .int .i64 X.no, .slice b4 (uvals X.nl).length r4] 27)) ((m2.down (HK0.out.trans HK2.out)).alloc (.cells #[.int .i64 X.sc, .int .u64 (X.ze : Int), .int .i64 X.po, .slice a4 (uvals X.pl).length q4, .int .i64 X.no, .slice b4 (uvals X.nl).length r4] 27)))
        have HX3 := Lib.hid (hist_boxed w3 X (.slice a4 (uvals X.pl).length q4) (.slice b4 (uvals X.nl).length r4))
        have HLB3 := Lib.hid (HLB.out.on HK3.out)
        clear m1 m2
        go_upto_region 11 with fail
        obtain ⟨ws, hws⟩ : ∃ ws, ws = w3.alloc (.cells #[.int .i64 X.sc, .int .u64 (X.ze : Int), .int .i64 X.po, .slice a4 (uvals X.pl).length q4, .int .i64 X.no, .slice b4 (uvals X.nl).length r4] 27) := ⟨_, rfl⟩
        rw [← hws] at HK3 HM1 HX3 HLB3
        rw [← hws]
        clear hws
        obtain ⟨vb0, vb1, vb2, vb3, vb4, vb5⟩ := HLB3.out.b.c
        go_wp2_with fail
        refine (HD2.out _ (HK0.out.trans HK3.out)).mono ?_
        rintro e w5 ⟨pv, nv, rfl, m1, m2, _⟩
        obtain ⟨a5, q5, rfl⟩ := m1.slice
        obtain ⟨b5, r5, rfl⟩ := m2.slice
        unfold histV
        dsimp only
        have HK5 := Lib.hid ((HK3.out.trans m1.kept).alloc (.cells #[.int .i64 Y.sc, .int .u64 (Y.ze : Int), .int .i64 Y.po, .slice a5 (uvals Y.pl).length q5, .int .i64 Y.no, .slice b5 (uvals Y.nl).length r5] 27))
        have HS5 := Lib.hid (m1.kept.alloc (.cells #[.int .i64 Y.sc, .int .u64 (Y.ze : Int), .int .i64 Y.po, .slice a5 (uvals Y.pl).length q5, .int .i64 Y.no, .slice b5 (uvals Y.nl).length r5] 27))
        have HM5 := Lib.hid (And.intro ((m1.down (HK0.out.trans HK3.out)).alloc (.cells #[.int .i64 Y.sc, .int .u64 (Y.ze : Int), .int .i64 Y.po, .slice a5 (uvals Y.pl).length q5, .int .i64 Y.no, .slice b5 (uvals Y.nl).length r5] 27)) ((m2.down (HK0.out.trans HK3.out)).alloc (.cells #[.int .i64 Y.sc, .int .u64 (Y.ze : Int), .int .i64 Y.po, .slice a5 (uvals Y.pl).length q5, .int .i64 Y.no, .slice b5 (uvals Y.nl).length r5] 27)))
        have HX5 := Lib.hid (hist_boxed w5 Y (.slice a5 (uvals Y.pl).length q5) (.slice b5 (uvals Y.nl).length r5))
        have HLB5 := Lib.hid (HLB.out.on HK5.out)
        have HX3 := Lib.hid (HX3.out.same HS5.out (fun x => x))
        have HM1 := Lib.hid (And.intro (HM1.out.1.on HS5.out) (HM1.out.2.on HS5.out))
        clear m1 m2
        go_upto_region 12 with fail
        obtain ⟨wt, hwt⟩ : ∃ wt, wt = w5.alloc (.cells #[.int .i64 Y.sc, .int .u64 (Y.ze : Int), .int .i64 Y.po, .slice a5 (uvals Y.pl).length q5, .int .i64 Y.no, .slice b5 (uvals Y.nl).length r5] 27) := ⟨_, rfl⟩
        rw [← hwt] at HK5 HM5 HX5 HLB5 HX3 HM1 HS5
        rw [← hwt]
        clear hwt
        obtain ⟨x0, x1, x2, x3, x4, x5⟩ := HX3.out.c
        obtain ⟨y0, y1, y2, y3, y4, y5⟩ := HX5.out.c
        obtain ⟨⟨z0, z1, z2, z3, z4, z5⟩, ⟨z6, z7, z8, z9, z10, z11⟩, z12⟩ := HLB5.out.r.c
        have f0 := HLB5.out.r.f 0
        have f1 := HLB5.out.r.f 1
        have f2 := HLB5.out.r.f 2
        have f3 := HLB5.out.r.f 3
        have f4 := HLB5.out.r.f 4
        have f5 := HLB5.out.r.f 5
        have f6 := HLB5.out.r.f 6
        have f7 := HLB5.out.r.f 7
        have f8 := HLB5.out.r.f 8
        have f9 := HLB5.out.r.f 9
        have f10 := HLB5.out.r.f 10
        have f11 := HLB5.out.r.f 11
        have f12 := HLB5.out.r.f 12
        go_wp2
        refine pair_end (X := X) (Y := Y) (p1 := .slice a4 (uvals X.pl).length q4) (n1 := .slice b4 (uvals X.nl).length r4) (p2 := .slice a5 (uvals Y.pl).length q5) (n2 := .slice b5 (uvals Y.nl).length r5) (E := 0) Try.results29 rfl rfl (HLB5.out.r.set X Y (.slice a4 (uvals X.pl).length q4) (.slice b4 (uvals X.nl).length r4) (.slice a5 (uvals Y.pl).length q5) (.slice b5 (uvals Y.nl).length r5) 0) ?_
        have e := HZ.out
        rw [e]
        refine ⟨_, _, _, _, rfl, ?_, ?_, ?_, ?_⟩
        · exact HM1.out.1.set13 HLB5.out.r (by omega) _ _ _ _ _ _ _ _ _ _ _ _ _
        · exact HM1.out.2.set13 HLB5.out.r (by omega) _ _ _ _ _ _ _ _ _ _ _ _ _
        · exact HM5.out.1.set13 HLB5.out.r (by omega) _ _ _ _ _ _ _ _ _ _ _ _ _
        · exact HM5.out.2.set13 HLB5.out.r (by omega) _ _ _ _ _ _ _ _ _ _ _ _ _
      · obtain rfl : S = asc := by have := HSM.out; omega
        have t1 : IntKind.i64.wrap (bsc - S) = bsc - S := IntWalk.i64_in _ ⟨by omega, by omega⟩
        have HD1' := HD1.out
        rw [Int.sub_self] at HD1'
        have HD1 := Lib.hid HD1'
        clear HD1'
        go_enter Try.func29, Try.ntmps29
        go_wp2_with fail
        refine HCA1.out.mono ?_
        rintro e w1 ⟨rfl, k1⟩
        rw [← HW0.out] at k1
        have HK1 := Lib.hid k1
        have HLB1 := Lib.hid (HLB.out.on HK1.out)
        clear k1
        obtain ⟨vb0, vb1, vb2, vb3, vb4, vb5⟩ := HLB1.out.b.c
        go_wp2_with fail
        refine (HCB.out _ (HK0.out.trans HK1.out)).mono ?_
        rintro e w2 ⟨rfl, k2⟩
        have HK2 := Lib.hid (HK1.out.trans k2)
        have HLB2 := Lib.hid (HLB.out.on HK2.out)
        clear k2
        obtain ⟨va0, va1, va2, va3, va4, va5⟩ := HLB2.out.a.c
        obtain ⟨vb0, vb1, vb2, vb3, vb4, vb5⟩ := HLB2.out.b.c
        go_wp2_with fail
        refine (HD1.out _ (HK0.out.trans HK2.out)).mono ?_
        rintro e w3 ⟨pv, nv, rfl, m1, m2, _⟩
        obtain ⟨a4, q4, rfl⟩ := m1.slice
        obtain ⟨b4, r4, rfl⟩ := m2.slice
        unfold histV
        dsimp only
        have HK3 := Lib.hid ((HK2.out.trans m1.kept).alloc (.cells #[.int .i64 X.sc, .int .u64 (X.ze : Int), .int .i64 X.po, .slice a4 (uvals X.pl).length q4, .int .i64 X.no, .slice b4 (uvals X.nl).length r4] 27))
        have HM1 := Lib.hid (And.intro ((m1.down (HK0.out.trans HK2.out)).alloc (.cells #[.int .i64 X.sc, .int .u64 (X.ze : Int), .int .i64 X.po, .slice a4 (uvals X.pl).length q4, .int .i64 X.no, .slice b4 (uvals X.nl).length r4] 27)) ((m2.down (HK0.out.trans HK2.out)).alloc (.cells #[.int .i64 X.sc, .int .u64 (X.ze : Int), .int .i64 X.po, .slice a4 (uvals X.pl).length q4, .int .i64 X.no, .slice b4 (uvals X.nl).length r4] 27)))
        have HX3 := Lib.hid (hist_boxed w3 X (.slice a4 (uvals X.pl).length q4) (.slice b4 (uvals X.nl).length r4))
        have HLB3 := Lib.hid (HLB.out.on HK3.out)
        clear m1 m2
        go_upto_region 11 with fail
        obtain ⟨ws, hws⟩ : ∃ ws, ws = w3.alloc (.cells #[.int .i64 X.sc, .int .u64 (X.ze : Int), .int .i64 X.po, .slice a4 (uvals X.pl).length q4, .int .i64 X.no, .slice b4 (uvals X.nl).length r4] 27) := ⟨_, rfl⟩
        rw [← hws] at HK3 HM1 HX3 HLB3
        rw [← hws]
        clear hws
        obtain ⟨vb0, vb1, vb2, vb3, vb4, vb5⟩ := HLB3.out.b.c
        go_wp2_with fail
        refine (HD2.out _ (HK0.out.trans HK3.out)).mono ?_
        rintro e w5 ⟨pv, nv, rfl, m1, m2, _⟩
        obtain ⟨a5, q5, rfl⟩ := m1.slice
        obtain ⟨b5, r5, rfl⟩ := m2.slice
        unfold histV
        dsimp only
        have HK5 := Lib.hid ((HK3.out.trans m1.kept).alloc (.cells #[.int .i64 Y.sc, .int .u64 (Y.ze : Int), .int .i64 Y.po, .slice a5 (uvals Y.pl).length q5, .int .i64 Y.no, .slice b5 (uvals Y.nl).length r5] 27))
        have HS5 := Lib.hid (m1.kept.alloc (.cells #[.int .i64 Y.sc, .int .u64 (Y.ze : Int), .int .i64 Y.po, .slice a5 (uvals Y.pl).length q5, .int .i64 Y.no, .slice b5 (uvals Y.nl).length r5] 27))
        have HM5 := Lib.hid (And.intro ((m1.down (HK0.out.trans HK3.out)).alloc (.cells #[.int .i64 Y.sc, .int .u64 (Y.ze : Int), .int .i64 Y.po, .slice a5 (uvals Y.pl).length q5, .int .i64 Y.no, .slice b5 (uvals Y.nl).length r5] 27)) ((m2.down (HK0.out.trans HK3.out)).alloc (.cells #[.int .i64 Y.sc, .int .u64 (Y.ze : Int), .int .i64 Y.po, .slice a5 (uvals Y.pl).length q5, .int .i64 Y.no, .slice b5 (uvals Y.nl).length r5] 27)))
        have HX5 := Lib.hid (hist_boxed w5 Y (.slice a5 (uvals Y.pl).length q5) (.slice b5 (uvals Y.nl).length r5))
        have HLB5 := Lib.hid (HLB.out.on HK5.out)
        have HX3 := Lib.hid (HX3.out.same HS5.out (fun x => x))
        have HM1 := Lib.hid (And.intro (HM1.out.1.on HS5.out) (HM1.out.2.on HS5.out))
        clear m1 m2
        go_upto_region 12 with fail
        obtain ⟨wt, hwt⟩ : ∃ wt, wt = w5.alloc (.cells #[.int .i64 Y.sc, .int .u64 (Y.ze : Int), .int .i64 Y.po, .slice a5 (uvals Y.pl).length q5, .int .i64 Y.no, .slice b5 (uvals Y.nl).length r5] 27) := ⟨_, rfl⟩
        rw [← hwt] at HK5 HM5 HX5 HLB5 HX3 HM1 HS5
        rw [← hwt]
        clear hwt
        obtain ⟨x0, x1, x2, x3, x4, x5⟩ := HX3.out.c
        obtain ⟨y0, y1, y2, y3, y4, y5⟩ := HX5.out.c
        obtain ⟨⟨z0, z1, z2, z3, z4, z5⟩, ⟨z6, z7, z8, z9, z10, z11⟩, z12⟩ := HLB5.out.r.c
        have f0 := HLB5.out.r.f 0
        have f1 := HLB5.out.r.f 1
        have f2 := HLB5.out.r.f 2
        have f3 := HLB5.out.r.f 3
        have f4 := HLB5.out.r.f 4
        have f5 := HLB5.out.r.f 5
        have f6 := HLB5.out.r.f 6
        have f7 := HLB5.out.r.f 7
        have f8 := HLB5.out.r.f 8
        have f9 := HLB5.out.r.f 9
        have f10 := HLB5.out.r.f 10
        have f11 := HLB5.out.r.f 11
        have f12 := HLB5.out.r.f 12
        go_wp2
        refine pair_end (X := X) (Y := Y) (p1 := .slice a4 (uvals X.pl).length q4) (n1 := .slice b4 (uvals X.nl).length r4) (p2 := .slice a5 (uvals Y.pl).length q5) (n2 := .slice b5 (uvals Y.nl).length r5) (E := 0) Try.results29 rfl rfl (HLB5.out.r.set X Y (.slice a4 (uvals X.pl).length q4) (.slice b4 (uvals X.nl).length r4) (.slice a5 (uvals Y.pl).length q5) (.slice b5 (uvals Y.nl).length r5) 0) ?_
        have e := HZ.out
        rw [e]
        refine ⟨_, _, _, _, rfl, ?_, ?_, ?_, ?_⟩
        · exact HM1.out.1.set13 HLB5.out.r (by omega) _ _ _ _ _ _ _ _ _ _ _ _ _
        · exact HM1.out.2.set13 HLB5.out.r (by omega) _ _ _ _ _ _ _ _ _ _ _ _ _
        · exact HM5.out.1.set13 HLB5.out.r (by omega) _ _ _ _ _ _ _ _ _ _ _ _ _
        · exact HM5.out.2.set13 HLB5.out.r (by omega) _ _ _ _ _ _ _ _ _ _ _ _ _
    · have q2 : ((Eb : Int) != 0) = true := bneT (by omega)
      have Z := Lib.hid (And.intro z1 z2)
      clear z1 z2
      go_enter Try.func29, Try.ntmps29
      go_wp2_with fail
      refine HCA1.out.mono ?_
      rintro e w1 ⟨rfl, k1⟩
      rw [← HW0.out] at k1
      have HK1 := Lib.hid k1
      have HLB1 := Lib.hid (HLB.out.on HK1.out)
      clear k1
      obtain ⟨vb0, vb1, vb2, vb3, vb4, vb5⟩ := HLB1.out.b.c
      go_wp2_with fail
      refine (HCB.out _ (HK0.out.trans HK1.out)).mono ?_
      rintro e w2 ⟨rfl, k2⟩
      have HK2 := Lib.hid (HK1.out.trans k2)
      have HLB2 := Lib.hid (HLB.out.on HK2.out)
      clear k2
      obtain ⟨⟨x0, x1, x2, x3, x4, x5⟩, ⟨y0, y1, y2, y3, y4, y5⟩, z⟩ := HLB2.out.r.c
      have f0 := HLB2.out.r.f 0
      have f1 := HLB2.out.r.f 1
      have f2 := HLB2.out.r.f 2
      have f3 := HLB2.out.r.f 3
      have f4 := HLB2.out.r.f 4
      have f5 := HLB2.out.r.f 5
      have f6 := HLB2.out.r.f 6
      have f7 := HLB2.out.r.f 7
      have f8 := HLB2.out.r.f 8
      have f9 := HLB2.out.r.f 9
      have f10 := HLB2.out.r.f 10
      have f11 := HLB2.out.r.f 11
      have f12 := HLB2.out.r.f 12
      go_wp2
      refine pair_end (X := zeroH) (Y := zeroH) (p1 := .slice none 0 0) (n1 := .slice none 0 0) (p2 := .slice none 0 0) (n2 := .slice none 0 0) (E := Eb) Try.results29 rfl rfl (HLB2.out.r.set zeroH zeroH (.slice none 0 0) (.slice none 0 0) (.slice none 0 0) (.slice none 0 0) Eb) ?_
      exact HBAD.out _ Eb (by rw [HLE.out, Z.out.1]; rfl) Z.out.2 ((HK0.out.trans HK2.out).newer (set13_kept _ _ _ _ _ _ _ _ _ _ _ _ _ _ _) (fun i e => by omega))
  · have q1 : ((Ea : Int) != 0) = true := bneT (by omega)
    have Z := Lib.hid z1
    clear z1
    go_enter Try.func29, Try.ntmps29
    go_wp2_with fail
    refine HCA1.out.mono ?_
    rintro e w1 ⟨rfl, k1⟩
    rw [← HW0.out] at k1
    have HK1 := Lib.hid k1
    have HLB1 := Lib.hid (HLB.out.on HK1.out)
    clear k1
    obtain ⟨⟨x0, x1, x2, x3, x4, x5⟩, ⟨y0, y1, y2, y3, y4, y5⟩, z⟩ := HLB1.out.r.c
    have f0 := HLB1.out.r.f 0
    have f1 := HLB1.out.r.f 1
    have f2 := HLB1.out.r.f 2
    have f3 := HLB1.out.r.f 3
    have f4 := HLB1.out.r.f 4
    have f5 := HLB1.out.r.f 5
    have f6 := HLB1.out.r.f 6
    have f7 := HLB1.out.r.f 7
    have f8 := HLB1.out.r.f 8
    have f9 := HLB1.out.r.f 9
    have f10 := HLB1.out.r.f 10
    have f11 := HLB1.out.r.f 11
    have f12 := HLB1.out.r.f 12
    go_wp2
    refine pair_end (X := zeroH) (Y := zeroH) (p1 := .slice none 0 0) (n1 := .slice none 0 0) (p2 := .slice none 0 0) (n2 := .slice none 0 0) (E := Ea) Try.results29 rfl rfl (HLB1.out.r.set zeroH zeroH (.slice none 0 0) (.slice none 0 0) (.slice none 0 0) (.slice none 0 0) Ea) ?_
    exact HBAD.out _ Ea (by rw [HLE.out, if_pos Z.out]) Z.out ((HK0.out.trans HK1.out).newer (set13_kept _ _ _ _ _ _ _ _ _ _ _ _ _ _ _) (fun i e => by omega))
end Go.Proofs.Ytbjpcddnjndjlaa
