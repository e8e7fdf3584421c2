/- Texts put together: what the theorem stands on. -/
import Derived.Test.YtiiibhdohlpodaaZz10

namespace Go.Proofs.Ytiiibhdohlpodaa
open Go.RowKit
attribute [local go_sem ↓] Go.wp_at_zero Go.wp_at_succ
set_option maxHeartbeats 4000000 in
set_option maxRecDepth 100000 in
theorem foldSub_any (a b : HistV) (ap an bp bn : Value) (w : World) (ha : HistIn w a ap an) (hb : HistIn w b bp bn) (la1 : a.pl.length ≤ 1000000) (la2 : a.nl.length ≤ 1000000) (lb1 : b.pl.length ≤ 1000000) (lb2 : b.nl.length ≤ 1000000) :
    Calls Try.prog 87 #[histV a ap an, histV b bp bn] w (fun e w' => ∃ R E, SubH a b R E ∧ HistNew w R E e w') := by
  obtain ⟨⟨ao, c, rfl⟩, a1, c1, rfl⟩ := ha.at_.sl
  obtain ⟨⟨bo, d, rfl⟩, b1, d1, rfl⟩ := hb.at_.sl
  have hlb := HB3.mk0 w a b (.slice ao a.pl.length c) (.slice a1 a.nl.length c1) (.slice bo b.pl.length d) (.slice b1 b.nl.length d1)
  obtain ⟨w0, hw0⟩ : ∃ w0, w0 = (((w.alloc (.cells #[.int .i64 a.sc, .int .u64 (a.ze : Int), .int .i64 a.po, .slice ao a.pl.length c, .int .i64 a.no, .slice a1 a.nl.length c1] 30)).alloc (.cells #[.int .i64 b.sc, .int .u64 (b.ze : Int), .int .i64 b.po, .slice bo b.pl.length d, .int .i64 b.no, .slice b1 b.nl.length d1] 30)).alloc (.cells #[.int .i64 0, .int .u64 0, .int .i64 0, .slice none 0 0, .int .i64 0, .slice none 0 0] 30)) := ⟨_, rfl⟩
  rw [← hw0] at hlb
  have k0 : Kept (fun _ => False) w w0 := by rw [hw0]; exact (((Kept.refl _ w).alloc _).alloc _).alloc _
  have HK0 := Lib.hid k0
  have HB0 := Lib.hid hlb
  have hlv := foldLevel_any a b _ _ _ _ w0 (ha.at_.on k0) (hb.at_.on k0) ha.ok hb.ok la1 la2 lb1 lb2
  have hbad := lev_bad (a := a) (b := b)
  have hright := fun h => lev_right (a := a) (b := b) h ha.ok hb.ok
  have HW0 := Lib.hid hw0
  have hSH : ∀ R E, SubH a b R E ↔ ((levE a b ≠ 0 ∧ E = levE a b ∧ R = zeroH) ∨
  (levE a b = 0 ∧ ∃ k1 o1 l1 k2 o2 l2, SubRes (levX a b).po (levX a b).pl (levY a b).po (levY a b).pl k1 o1 l1 ∧ SubRes (levX a b).no (levX a b).nl (levY a b).no (levY a b).nl k2 o2 l2 ∧
    ((k1 = true ∧ k2 = true ∧ (levY a b).ze ≤ (levX a b).ze ∧ E = 0 ∧ R = ⟨(levX a b).sc, (levX a b).ze - (levY a b).ze, o1, l1, o2, l2⟩) ∨ ((k1 = false ∨ k2 = false ∨ (levX a b).ze < (levY a b).ze) ∧ E = 7 ∧ R = zeroH)))) := fun R E => Iff.rfl
  obtain ⟨PS, hPS⟩ : ∃ P : HistV → Nat → Prop, P = SubH a b := ⟨_, rfl⟩
  rw [← hPS] at hSH ⊢
  clear hPS
  obtain ⟨X, hX⟩ : ∃ X, X = levX a b := ⟨_, rfl⟩
  obtain ⟨Y, hY⟩ : ∃ Y, Y = levY a b := ⟨_, rfl⟩
  obtain ⟨EL, hEL⟩ : ∃ E, E = levE a b := ⟨_, rfl⟩
  rw [← hX, ← hY] at hlv hbad hright hSH
  rw [← hEL] at hlv hbad hright hSH
  have HLV := Lib.hid hlv
  by_cases hz : EL = 0
  · have qE : ((EL : Int) != 0) = false := bneF (by omega)
    obtain ⟨_, _, ex, ey, okx, oky, _, _⟩ := hright hz
    obtain ⟨⟨sx1, sx2⟩, hx1, hx2, hx3⟩ := err_light ex
    obtain ⟨_, hy1, hy2, hy3⟩ := err_light ey
    obtain ⟨sx3, sx4⟩ := side_range hx1
    obtain ⟨sx5, sx6⟩ := side_range hx2
    obtain ⟨sy3, sy4⟩ := side_range hy1
    obtain ⟨sy5, sy6⟩ := side_range hy2
    obtain ⟨tx1, tx2⟩ := total_parts hx3
    obtain ⟨ty1, ty2⟩ := total_parts hy3
    have zx := okx.ze
    have zy := oky.ze
    obtain ⟨K1, O1, L1, hs1⟩ := sub_exists X.po X.pl Y.po Y.pl
    obtain ⟨K2, O2, L2, hs2⟩ := sub_exists X.no X.nl Y.no Y.nl
    have HC1 := Lib.hid (fun w' {p1 n1 p2 n2 : Value} (t : Two2 w0 w' X Y p1 n1 p2 n2) => (foldSub1_any X.po X.pl Y.po Y.pl _ _ w' t.p1.at_ t.p2.at_ hx1 hy1 okx.pl oky.pl).mono fun e w'' h => SubOut.try_ (W := w0) hs1 t.p1.kept h)
    have HC2 := Lib.hid (fun w' {p1 n1 p2 n2 : Value} (t : Two2 w0 w' X Y p1 n1 p2 n2) => (foldSub1_any X.no X.nl Y.no Y.nl _ _ w' t.n1.at_ t.n2.at_ hx2 hy2 okx.nl oky.nl).mono fun e w'' h => SubOut.try_ (W := w0) hs2 t.n1.kept h)
    by_cases hg : K1 = true ∧ K2 = true ∧ Y.ze ≤ X.ze
    · obtain ⟨rfl, rfl, hze⟩ := hg
      obtain ⟨ZE, hZE⟩ : ∃ Z, Z = X.ze - Y.ze := ⟨_, rfl⟩
      have u1 : IntKind.u64.wrap ((X.ze : Int) - (Y.ze : Int)) = (ZE : Int) := by rw [IntKind.wrap_u64]; omega
      have u2 : (X.ze : Int) - (Y.ze : Int) = (ZE : Int) := by omega
      have u3 : IntKind.u64.wrap (ZE : Int) = (ZE : Int) := by rw [IntKind.wrap_u64]; omega
      have qz : ¬ (X.ze : Int) < (Y.ze : Int) := by omega
      have hres : PS ⟨X.sc, ZE, O1, L1, O2, L2⟩ 0 := (hSH _ _).2 (.inr ⟨hz, true, O1, L1, true, O2, L2, hs1, hs2, .inl ⟨rfl, rfl, hze, rfl, by rw [hZE]⟩⟩)
      have HGOOD : Hid (∀ w' pv nv, Mine w w' 25 pv (uvals L1) → Mine w w' 25 nv (uvals L2) → ∃ R E, PS R E ∧ HistNew w R E (.returned (.tuple #[histV ⟨X.sc, ZE, O1, L1, O2, L2⟩ pv nv, .int .i64 0])) w') := Lib.hid fun w' pv nv h1 h2 => ⟨_, _, hres, pv, nv, rfl, h1, h2⟩
      clear hX hY hEL hlb k0 hw0 hlv hbad hright ha hb la1 la2 lb1 lb2 hSH hz ex ey okx oky sx1 sx2 hx1 hx2 hx3 hy1 hy2 hy3 sx3 sx4 sx5 sx6 sy3 sy4 sy5 sy6 tx1 tx2 ty1 ty2 zx zy hZE hze hs1 hs2 hres
      obtain ⟨asc, aze, apo, apl, ano, anl⟩ := a
      obtain ⟨bsc, bze, bpo, bpl, bno, bnl⟩ := b
      unfold histV at HLV ⊢
      simp only at HLV HW0 ⊢
      go_enter Try.func87, Try.ntmps87
      go_upto_region 1 with fail
      rw [← HW0.out]
      obtain ⟨v0, v1, v2, v3, v4, v5⟩ := HB0.out.a.c
      obtain ⟨u0, u1, u2, u3, u4, u5⟩ := HB0.out.b.c
      go_wp2_with fail
      refine (HLV.out).mono ?_
      rintro e w1 ⟨p1, n1, p2, n2, rfl, m1, m2, m3, m4⟩
      obtain ⟨p1, q1, rfl⟩ := m1.slice
      obtain ⟨n1, r1, rfl⟩ := m2.slice
      obtain ⟨p2, q2, rfl⟩ := m3.slice
      obtain ⟨n2, r2, rfl⟩ := m4.slice
      unfold histV
      dsimp only
      have hk1 := (m1.kept.alloc (.cells #[.int .i64 X.sc, .int .u64 (X.ze : Int), .int .i64 X.po, .slice p1 (uvals X.pl).length q1, .int .i64 X.no, .slice n1 (uvals X.nl).length r1] 30)).alloc (.cells #[.int .i64 Y.sc, .int .u64 (Y.ze : Int), .int .i64 Y.po, .slice p2 (uvals Y.pl).length q2, .int .i64 Y.no, .slice n2 (uvals Y.nl).length r2] 30)
      have ha1 := (Kept.refl (fun _ => False) w1).alloc (.cells #[.int .i64 X.sc, .int .u64 (X.ze : Int), .int .i64 X.po, .slice p1 (uvals X.pl).length q1, .int .i64 X.no, .slice n1 (uvals X.nl).length r1] 30)
      have ha2 := (Kept.refl (fun _ => False) (w1.alloc (.cells #[.int .i64 X.sc, .int .u64 (X.ze : Int), .int .i64 X.po, .slice p1 (uvals X.pl).length q1, .int .i64 X.no, .slice n1 (uvals X.nl).length r1] 30))).alloc (.cells #[.int .i64 Y.sc, .int .u64 (Y.ze : Int), .int .i64 Y.po, .slice p2 (uvals Y.pl).length q2, .int .i64 Y.no, .slice n2 (uvals Y.nl).length r2] 30)
      obtain ⟨ws, hws⟩ : ∃ ws, ws = (w1.alloc (.cells #[.int .i64 X.sc, .int .u64 (X.ze : Int), .int .i64 X.po, .slice p1 (uvals X.pl).length q1, .int .i64 X.no, .slice n1 (uvals X.nl).length r1] 30)).alloc (.cells #[.int .i64 Y.sc, .int .u64 (Y.ze : Int), .int .i64 Y.po, .slice p2 (uvals Y.pl).length q2, .int .i64 Y.no, .slice n2 (uvals Y.nl).length r2] 30) := ⟨_, rfl⟩
      have hxb := (hist_boxed w1 X (.slice p1 (uvals X.pl).length q1) (.slice n1 (uvals X.nl).length r1)).same ha2 (fun x => x)
      have hyb := hist_boxed (w1.alloc (.cells #[.int .i64 X.sc, .int .u64 (X.ze : Int), .int .i64 X.po, .slice p1 (uvals X.pl).length q1, .int .i64 X.no, .slice n1 (uvals X.nl).length r1] 30)) Y (.slice p2 (uvals Y.pl).length q2) (.slice n2 (uvals Y.nl).length r2)
      rw [show (w1.alloc (.cells #[.int .i64 X.sc, .int .u64 (X.ze : Int), .int .i64 X.po, .slice p1 (uvals X.pl).length q1, .int .i64 X.no, .slice n1 (uvals X.nl).length r1] 30)).heap.size = w1.heap.size + 1 by simp] at hyb
      have htw := (Two2.mk m1 m2 m3 m4).on (ha1.trans ha2)
      rw [← hws] at hk1 hxb hyb htw
      have HXB := Lib.hid hxb
      have HYB := Lib.hid hyb
      have HTW := Lib.hid htw
      have HK1 := Lib.hid hk1
      have HBX := Lib.hid (HB0.out.on hk1)
      have HWS := Lib.hid hws
      clear m1 m2 m3 m4 hk1 htw hws v0 v1 v2 v3 v4 v5 u0 u1 u2 u3 u4 u5 hxb hyb ha1 ha2
      go_upto_region 2 with fail
      rw [← HWS.out]
      obtain ⟨x0, x1, x2, x3, x4, x5⟩ := HXB.out.c
      obtain ⟨y0, y1, y2, y3, y4, y5⟩ := HYB.out.c
      go_wp2_with fail
      refine (HC1.out _ HTW.out).mono ?_
      rintro e w4 ⟨v4, rfl, m4, k4⟩
      obtain ⟨a4, q4, rfl⟩ := m4.slice
      have hs4 := k4.alloc (.cells #[.int .i64 O1, .slice a4 (uvals L1).length q4] 28)
      have hm4 := m4.on ((Kept.refl (fun _ => False) w4).alloc (.cells #[.int .i64 O1, .slice a4 (uvals L1).length q4] 28))
      have hb4 := side_boxed w4 O1 (.slice a4 (uvals L1).length q4)
      obtain ⟨wx4, hwx4⟩ : ∃ w', w' = w4.alloc (.cells #[.int .i64 O1, .slice a4 (uvals L1).length q4] 28) := ⟨_, rfl⟩
      rw [← hwx4] at hs4 hm4 hb4
      have HS4 := Lib.hid hs4
      have HM4 := Lib.hid hm4
      have HSB4 := Lib.hid hb4
      have HWX4 := Lib.hid hwx4
      clear k4 m4 hs4 hm4 hb4 hwx4
      have HBX := Lib.hid (HBX.out.on HS4.out)
      have HTW := Lib.hid (HTW.out.on HS4.out)
      have HXB := Lib.hid (HXB.out.same HS4.out (fun x => x))
      have HYB := Lib.hid (HYB.out.same HS4.out (fun x => x))
      clear x0 x1 x2 x3 x4 x5 y0 y1 y2 y3 y4 y5
      go_upto_region 5 with fail
      rw [← HWX4.out]
      obtain ⟨x0, x1, x2, x3, x4, x5⟩ := HXB.out.c
      obtain ⟨y0, y1, y2, y3, y4, y5⟩ := HYB.out.c
      go_wp2_with fail
      refine (HC2.out _ HTW.out).mono ?_
      rintro e w5 ⟨v5, rfl, m5, k5⟩
      obtain ⟨a5, q5, rfl⟩ := m5.slice
      have hs5 := k5.alloc (.cells #[.int .i64 O2, .slice a5 (uvals L2).length q5] 28)
      have hm5 := m5.on ((Kept.refl (fun _ => False) w5).alloc (.cells #[.int .i64 O2, .slice a5 (uvals L2).length q5] 28))
      have hb5 := side_boxed w5 O2 (.slice a5 (uvals L2).length q5)
      obtain ⟨wx5, hwx5⟩ : ∃ w', w' = w5.alloc (.cells #[.int .i64 O2, .slice a5 (uvals L2).length q5] 28) := ⟨_, rfl⟩
      rw [← hwx5] at hs5 hm5 hb5
      have HS5 := Lib.hid hs5
      have HM5 := Lib.hid hm5
      have HSB5 := Lib.hid hb5
      have HWX5 := Lib.hid hwx5
      clear k5 m5 hs5 hm5 hb5 hwx5
      have HBX := Lib.hid (HBX.out.on HS5.out)
      have HTW := Lib.hid (HTW.out.on HS5.out)
      have HXB := Lib.hid (HXB.out.same HS5.out (fun x => x))
      have HYB := Lib.hid (HYB.out.same HS5.out (fun x => x))
      have HM4 := Lib.hid (HM4.out.on HS5.out)
      have HSB4 := Lib.hid (HSB4.out.same HS5.out (fun x => x))
      clear x0 x1 x2 x3 x4 x5 y0 y1 y2 y3 y4 y5
      go_upto_region 6 with fail
      rw [← HWX5.out]
      obtain ⟨x0, x1, x2, x3, x4, x5⟩ := HXB.out.c
      obtain ⟨y0, y1, y2, y3, y4, y5⟩ := HYB.out.c
      obtain ⟨⟨b40, b41⟩, _⟩ := HSB4.out.c
      obtain ⟨⟨b50, b51⟩, _⟩ := HSB5.out.c
      obtain ⟨s0, s1, s2, s3, s4, s5⟩ := HBX.out.r.c
      obtain ⟨g0, g1, g2, g3, g4, g5⟩ := HBX.out.r.f
      go_wp2
      refine hist_end (h := ⟨X.sc, ZE, O1, L1, O2, L2⟩) (pv := .slice a4 (uvals L1).length q4) (nv := .slice a5 (uvals L2).length q5) Try.results87 rfl rfl rfl (HBX.out.r.set ⟨X.sc, ZE, O1, L1, O2, L2⟩ _ _) ?_
      refine HGOOD.out _ _ _ ?_ ?_
      · exact (HM4.out.down HK0.out).set6 HBX.out.r (by omega) _ _ _ _ _ _
      · exact (HM5.out.down HK0.out).set6 HBX.out.r (by omega) _ _ _ _ _ _
    · have hres : PS zeroH 7 := (hSH _ _).2 (.inr ⟨hz, K1, O1, L1, K2, O2, L2, hs1, hs2, .inr ⟨?_, rfl, rfl⟩⟩)
      · have HBADS : Hid (∀ w', Kept (fun _ => False) w w' → ∃ R E, PS R E ∧ HistNew w R E (.returned (.tuple #[histV zeroH (.slice none 0 0) (.slice none 0 0), .int .i64 7])) w') := Lib.hid fun w' k => ⟨_, _, hres, HistNew.zero (E := 7) k⟩
        cases K1 with
        | false =>
          clear hX hY hEL hlb k0 hw0 hlv hbad hright ha hb la1 la2 lb1 lb2 hSH hz ex ey okx oky sx1 sx2 hx1 hx2 hx3 hy1 hy2 hy3 sx3 sx4 sx5 sx6 sy3 sy4 sy5 sy6 tx1 tx2 ty1 ty2 zx zy hs1 hs2 hres hg
          obtain ⟨asc, aze, apo, apl, ano, anl⟩ := a
          obtain ⟨bsc, bze, bpo, bpl, bno, bnl⟩ := b
          unfold histV at HLV ⊢
          simp only at HLV HW0 ⊢
          go_enter Try.func87, Try.ntmps87
          go_upto_region 1 with fail
          rw [← HW0.out]
          obtain ⟨v0, v1, v2, v3, v4, v5⟩ := HB0.out.a.c
          obtain ⟨u0, u1, u2, u3, u4, u5⟩ := HB0.out.b.c
          go_wp2_with fail
          refine (HLV.out).mono ?_
          rintro e w1 ⟨p1, n1, p2, n2, rfl, m1, m2, m3, m4⟩
          obtain ⟨p1, q1, rfl⟩ := m1.slice
          obtain ⟨n1, r1, rfl⟩ := m2.slice
          obtain ⟨p2, q2, rfl⟩ := m3.slice
          obtain ⟨n2, r2, rfl⟩ := m4.slice
          unfold histV
          dsimp only
          have hk1 := (m1.kept.alloc (.cells #[.int .i64 X.sc, .int .u64 (X.ze : Int), .int .i64 X.po, .slice p1 (uvals X.pl).length q1, .int .i64 X.no, .slice n1 (uvals X.nl).length r1] 30)).alloc (.cells #[.int .i64 Y.sc, .int .u64 (Y.ze : Int), .int .i64 Y.po, .slice p2 (uvals Y.pl).length q2, .int .i64 Y.no, .slice n2 (uvals Y.nl).length r2] 30)
          have ha1 := (Kept.refl (fun _ => False) w1).alloc (.cells #[.int .i64 X.sc, .int .u64 (X.ze : Int), .int .i64 X.po, .slice p1 (uvals X.pl).length q1, .int .i64 X.no, .slice n1 (uvals X.nl).length r1] 30)
          have ha2 := (Kept.refl (fun _ => False) (w1.alloc (.cells #[.int .i64 X.sc, .int .u64 (X.ze : Int), .int .i64 X.po, .slice p1 (uvals X.pl).length q1, .int .i64 X.no, .slice n1 (uvals X.nl).length r1] 30))).alloc (.cells #[.int .i64 Y.sc, .int .u64 (Y.ze : Int), .int .i64 Y.po, .slice p2 (uvals Y.pl).length q2, .int .i64 Y.no, .slice n2 (uvals Y.nl).length r2] 30)
          obtain ⟨ws, hws⟩ : ∃ ws, ws = (w1.alloc (.cells #[.int .i64 X.sc, .int .u64 (X.ze : Int), .int .i64 X.po, .slice p1 (uvals X.pl).length q1, .int .i64 X.no, .slice n1 (uvals X.nl).length r1] 30)).alloc (.cells #[.int .i64 Y.sc, .int .u64 (Y.ze : Int), .int .i64 Y.po, .slice p2 (uvals Y.pl).length q2, .int .i64 Y.no, .slice n2 (uvals Y.nl).length r2] 30) := ⟨_, rfl⟩
          have hxb := (hist_boxed w1 X (.slice p1 (uvals X.pl).length q1) (.slice n1 (uvals X.nl).length r1)).same ha2 (fun x => x)
          have hyb := hist_boxed (w1.alloc (.cells #[.int .i64 X.sc, .int .u64 (X.ze : Int), .int .i64 X.po, .slice p1 (uvals X.pl).length q1, .int .i64 X.no, .slice n1 (uvals X.nl).length r1] 30)) Y (.slice p2 (uvals Y.pl).length q2) (.slice n2 (uvals Y.nl).length r2)
          rw [show (w1.alloc (.cells #[.int .i64 X.sc, .int .u64 (X.ze : Int), .int .i64 X.po, .slice p1 (uvals X.pl).length q1, .int .i64 X.no, .slice n1 (uvals X.nl).length r1] 30)).heap.size = w1.heap.size + 1 by simp] at hyb
          have htw := (Two2.mk m1 m2 m3 m4).on (ha1.trans ha2)
          rw [← hws] at hk1 hxb hyb htw
          have HXB := Lib.hid hxb
          have HYB := Lib.hid hyb
          have HTW := Lib.hid htw
          have HK1 := Lib.hid hk1
          have HBX := Lib.hid (HB0.out.on hk1)
          have HWS := Lib.hid hws
          clear m1 m2 m3 m4 hk1 htw hws v0 v1 v2 v3 v4 v5 u0 u1 u2 u3 u4 u5 hxb hyb ha1 ha2
          go_upto_region 2 with fail
          rw [← HWS.out]
          obtain ⟨x0, x1, x2, x3, x4, x5⟩ := HXB.out.c
          obtain ⟨y0, y1, y2, y3, y4, y5⟩ := HYB.out.c
          go_wp2_with fail
          refine (HC1.out _ HTW.out).mono ?_
          rintro e w4 ⟨v4, rfl, m4, k4⟩
          obtain ⟨a4, q4, rfl⟩ := m4.slice
          have hs4 := k4.alloc (.cells #[.int .i64 O1, .slice a4 (uvals L1).length q4] 28)
          have hm4 := m4.on ((Kept.refl (fun _ => False) w4).alloc (.cells #[.int .i64 O1, .slice a4 (uvals L1).length q4] 28))
          have hb4 := side_boxed w4 O1 (.slice a4 (uvals L1).length q4)
          obtain ⟨wx4, hwx4⟩ : ∃ w', w' = w4.alloc (.cells #[.int .i64 O1, .slice a4 (uvals L1).length q4] 28) := ⟨_, rfl⟩
          rw [← hwx4] at hs4 hm4 hb4
          have HS4 := Lib.hid hs4
          have HM4 := Lib.hid hm4
          have HSB4 := Lib.hid hb4
          have HWX4 := Lib.hid hwx4
          clear k4 m4 hs4 hm4 hb4 hwx4
          have HBX := Lib.hid (HBX.out.on HS4.out)
          have HTW := Lib.hid (HTW.out.on HS4.out)
          have HXB := Lib.hid (HXB.out.same HS4.out (fun x => x))
          have HYB := Lib.hid (HYB.out.same HS4.out (fun x => x))
          clear x0 x1 x2 x3 x4 x5 y0 y1 y2 y3 y4 y5
          go_upto_region 5 with fail
          rw [← HWX4.out]
          obtain ⟨x0, x1, x2, x3, x4, x5⟩ := HXB.out.c
          obtain ⟨y0, y1, y2, y3, y4, y5⟩ := HYB.out.c
          go_wp2_with fail
          refine (HC2.out _ HTW.out).mono ?_
          rintro e w5 ⟨v5, rfl, m5, k5⟩
          obtain ⟨a5, q5, rfl⟩ := m5.slice
          have hs5 := k5.alloc (.cells #[.int .i64 O2, .slice a5 (uvals L2).length q5] 28)
          have hm5 := m5.on ((Kept.refl (fun _ => False) w5).alloc (.cells #[.int .i64 O2, .slice a5 (uvals L2).length q5] 28))
          have hb5 := side_boxed w5 O2 (.slice a5 (uvals L2).length q5)
          obtain ⟨wx5, hwx5⟩ : ∃ w', w' = w5.alloc (.cells #[.int .i64 O2, .slice a5 (uvals L2).length q5] 28) := ⟨_, rfl⟩
          rw [← hwx5] at hs5 hm5 hb5
          have HS5 := Lib.hid hs5
          have HM5 := Lib.hid hm5
          have HSB5 := Lib.hid hb5
          have HWX5 := Lib.hid hwx5
          clear k5 m5 hs5 hm5 hb5 hwx5
          have HBX := Lib.hid (HBX.out.on HS5.out)
          have HTW := Lib.hid (HTW.out.on HS5.out)
          have HXB := Lib.hid (HXB.out.same HS5.out (fun x => x))
          have HYB := Lib.hid (HYB.out.same HS5.out (fun x => x))
          have HM4 := Lib.hid (HM4.out.on HS5.out)
          have HSB4 := Lib.hid (HSB4.out.same HS5.out (fun x => x))
          clear x0 x1 x2 x3 x4 x5 y0 y1 y2 y3 y4 y5
          go_upto_region 6 with fail
          rw [← HWX5.out]
          obtain ⟨x0, x1, x2, x3, x4, x5⟩ := HXB.out.c
          obtain ⟨y0, y1, y2, y3, y4, y5⟩ := HYB.out.c
          obtain ⟨s0, s1, s2, s3, s4, s5⟩ := HBX.out.r.c
          obtain ⟨g0, g1, g2, g3, g4, g5⟩ := HBX.out.r.f
          go_wp2
          refine hist_end (h := zeroH) (pv := .slice none 0 0) (nv := .slice none 0 0) Try.results87 rfl rfl rfl (HBX.out.r.set zeroH (.slice none 0 0) (.slice none 0 0)) ?_
          exact HBADS.out _ ((HK0.out.trans HTW.out.p1.kept).newer (set6_kept _ _ _ _ _ _ _ _) (fun i e => by omega))
        | true =>
          cases K2 with
          | false =>
            clear hX hY hEL hlb k0 hw0 hlv hbad hright ha hb la1 la2 lb1 lb2 hSH hz ex ey okx oky sx1 sx2 hx1 hx2 hx3 hy1 hy2 hy3 sx3 sx4 sx5 sx6 sy3 sy4 sy5 sy6 tx1 tx2 ty1 ty2 zx zy hs1 hs2 hres hg
            obtain ⟨asc, aze, apo, apl, ano, anl⟩ := a
            obtain ⟨bsc, bze, bpo, bpl, bno, bnl⟩ := b
            unfold histV at HLV ⊢
            simp only at HLV HW0 ⊢
            go_enter Try.func87, Try.ntmps87
            go_upto_region 1 with fail
            rw [← HW0.out]
            obtain ⟨v0, v1, v2, v3, v4, v5⟩ := HB0.out.a.c
            obtain ⟨u0, u1, u2, u3, u4, u5⟩ := HB0.out.b.c
            go_wp2_with fail
            refine (HLV.out).mono ?_
            rintro e w1 ⟨p1, n1, p2, n2, rfl, m1, m2, m3, m4⟩
            obtain ⟨p1, q1, rfl⟩ := m1.slice
            obtain ⟨n1, r1, rfl⟩ := m2.slice
            obtain ⟨p2, q2, rfl⟩ := m3.slice
            obtain ⟨n2, r2, rfl⟩ := m4.slice
            unfold histV
            dsimp only
            have hk1 := (m1.kept.alloc (.cells #[.int .i64 X.sc, .int .u64 (X.ze : Int), .int .i64 X.po, .slice p1 (uvals X.pl).length q1, .int .i64 X.no, .slice n1 (uvals X.nl).length r1] 30)).alloc (.cells #[.int .i64 Y.sc, .int .u64 (Y.ze : Int), .int .i64 Y.po, .slice p2 (uvals Y.pl).length q2, .int .i64 Y.no, .slice n2 (uvals Y.nl).length r2] 30)
            have ha1 := (Kept.refl (fun _ => False) w1).alloc (.cells #[.int .i64 X.sc, .int .u64 (X.ze : Int), .int .i64 X.po, .slice p1 (uvals X.pl).length q1, .int .i64 X.no, .slice n1 (uvals X.nl).length r1] 30)
            have ha2 := (Kept.refl (fun _ => False) (w1.alloc (.cells #[.int .i64 X.sc, .int .u64 (X.ze : Int), .int .i64 X.po, .slice p1 (uvals X.pl).length q1, .int .i64 X.no, .slice n1 (uvals X.nl).length r1] 30))).alloc (.cells #[.int .i64 Y.sc, .int .u64 (Y.ze : Int), .int .i64 Y.po, .slice p2 (uvals Y.pl).length q2, .int .i64 Y.no, .slice n2 (uvals Y.nl).length r2] 30)
            obtain ⟨ws, hws⟩ : ∃ ws, ws = (w1.alloc (.cells #[.int .i64 X.sc, .int .u64 (X.ze : Int), .int .i64 X.po, .slice p1 (uvals X.pl).length q1, .int .i64 X.no, .slice n1 (uvals X.nl).length r1] 30)).alloc (.cells #[.int .i64 Y.sc, .int .u64 (Y.ze : Int), .int .i64 Y.po, .slice p2 (uvals Y.pl).length q2, .int .i64 Y.no, .slice n2 (uvals Y.nl).length r2] 30) := ⟨_, rfl⟩
            have hxb := (hist_boxed w1 X (.slice p1 (uvals X.pl).length q1) (.slice n1 (uvals X.nl).length r1)).same ha2 (fun x => x)
            have hyb := hist_boxed (w1.alloc (.cells #[.int .i64 X.sc, .int .u64 (X.ze : Int), .int .i64 X.po, .slice p1 (uvals X.pl).length q1, .int .i64 X.no, .slice n1 (uvals X.nl).length r1] 30)) Y (.slice p2 (uvals Y.pl).length q2) (.slice n2 (uvals Y.nl).length r2)
            rw [show (w1.alloc (.cells #[.int .i64 X.sc, .int .u64 (X.ze : Int), .int .i64 X.po, .slice p1 (uvals X.pl).length q1, .int .i64 X.no, .slice n1 (uvals X.nl).length r1] 30)).heap.size = w1.heap.size + 1 by simp] at hyb
            have htw := (Two2.mk m1 m2 m3 m4).on (ha1.trans ha2)
            rw [← hws] at hk1 hxb hyb htw
            have HXB := Lib.hid hxb
            have HYB := Lib.hid hyb
            have HTW := Lib.hid htw
            have HK1 := Lib.hid hk1
            have HBX := Lib.hid (HB0.out.on hk1)
            have HWS := Lib.hid hws
            clear m1 m2 m3 m4 hk1 htw hws v0 v1 v2 v3 v4 v5 u0 u1 u2 u3 u4 u5 hxb hyb ha1 ha2
            go_upto_region 2 with fail
            rw [← HWS.out]
            obtain ⟨x0, x1, x2, x3, x4, x5⟩ := HXB.out.c
            obtain ⟨y0, y1, y2, y3, y4, y5⟩ := HYB.out.c
            go_wp2_with fail
            refine (HC1.out _ HTW.out).mono ?_
            rintro e w4 ⟨v4, rfl, m4, k4⟩
            obtain ⟨a4, q4, rfl⟩ := m4.slice
            have hs4 := k4.alloc (.cells #[.int .i64 O1, .slice a4 (uvals L1).length q4] 28)
            have hm4 := m4.on ((Kept.refl (fun _ => False) w4).alloc (.cells #[.int .i64 O1, .slice a4 (uvals L1).length q4] 28))
            have hb4 := side_boxed w4 O1 (.slice a4 (uvals L1).length q4)
            obtain ⟨wx4, hwx4⟩ : ∃ w', w' = w4.alloc (.cells #[.int .i64 O1, .slice a4 (uvals L1).length q4] 28) := ⟨_, rfl⟩
            rw [← hwx4] at hs4 hm4 hb4
            have HS4 := Lib.hid hs4
            have HM4 := Lib.hid hm4
            have HSB4 := Lib.hid hb4
            have HWX4 := Lib.hid hwx4
            clear k4 m4 hs4 hm4 hb4 hwx4
            have HBX := Lib.hid (HBX.out.on HS4.out)
            have HTW := Lib.hid (HTW.out.on HS4.out)
            have HXB := Lib.hid (HXB.out.same HS4.out (fun x => x))
            have HYB := Lib.hid (HYB.out.same HS4.out (fun x => x))
            clear x0 x1 x2 x3 x4 x5 y0 y1 y2 y3 y4 y5
            go_upto_region 5 with fail
            rw [← HWX4.out]
            obtain ⟨x0, x1, x2, x3, x4, x5⟩ := HXB.out.c
            obtain ⟨y0, y1, y2, y3, y4, y5⟩ := HYB.out.c
            go_wp2_with fail
            refine (HC2.out _ HTW.out).mono ?_
            rintro e w5 ⟨v5, rfl, m5, k5⟩
            obtain ⟨a5, q5, rfl⟩ := m5.slice
            have hs5 := k5.alloc (.cells #[.int .i64 O2, .slice a5 (uvals L2).length q5] 28)
            have hm5 := m5.on ((Kept.refl (fun _ => False) w5).alloc (.cells #[.int .i64 O2, .slice a5 (uvals L2).length q5] 28))
            have hb5 := side_boxed w5 O2 (.slice a5 (uvals L2).length q5)
            obtain ⟨wx5, hwx5⟩ : ∃ w', w' = w5.alloc (.cells #[.int .i64 O2, .slice a5 (uvals L2).length q5] 28) := ⟨_, rfl⟩
            rw [← hwx5] at hs5 hm5 hb5
            have HS5 := Lib.hid hs5
            have HM5 := Lib.hid hm5
            have HSB5 := Lib.hid hb5
            have HWX5 := Lib.hid hwx5
            clear k5 m5 hs5 hm5 hb5 hwx5
            have HBX := Lib.hid (HBX.out.on HS5.out)
            have HTW := Lib.hid (HTW.out.on HS5.out)
            have HXB := Lib.hid (HXB.out.same HS5.out (fun x => x))
            have HYB := Lib.hid (HYB.out.same HS5.out (fun x => x))
            have HM4 := Lib.hid (HM4.out.on HS5.out)
            have HSB4 := Lib.hid (HSB4.out.same HS5.out (fun x => x))
            clear x0 x1 x2 x3 x4 x5 y0 y1 y2 y3 y4 y5
            go_upto_region 6 with fail
            rw [← HWX5.out]
            obtain ⟨x0, x1, x2, x3, x4, x5⟩ := HXB.out.c
            obtain ⟨y0, y1, y2, y3, y4, y5⟩ := HYB.out.c
            obtain ⟨s0, s1, s2, s3, s4, s5⟩ := HBX.out.r.c
            obtain ⟨g0, g1, g2, g3, g4, g5⟩ := HBX.out.r.f
            go_wp2
            refine hist_end (h := zeroH) (pv := .slice none 0 0) (nv := .slice none 0 0) Try.results87 rfl rfl rfl (HBX.out.r.set zeroH (.slice none 0 0) (.slice none 0 0)) ?_
            exact HBADS.out _ ((HK0.out.trans HTW.out.p1.kept).newer (set6_kept _ _ _ _ _ _ _ _) (fun i e => by omega))
          | true =>
            have qz : (X.ze : Int) < (Y.ze : Int) := by have h : ¬ Y.ze ≤ X.ze := fun h => hg ⟨rfl, rfl, h⟩; omega
            clear hX hY hEL hlb k0 hw0 hlv hbad hright ha hb la1 la2 lb1 lb2 hSH hz ex ey okx oky sx1 sx2 hx1 hx2 hx3 hy1 hy2 hy3 sx3 sx4 sx5 sx6 sy3 sy4 sy5 sy6 tx1 tx2 ty1 ty2 zx zy hs1 hs2 hres hg
            obtain ⟨asc, aze, apo, apl, ano, anl⟩ := a
            obtain ⟨bsc, bze, bpo, bpl, bno, bnl⟩ := b
            unfold histV at HLV ⊢
            simp only at HLV HW0 ⊢
            go_enter Try.func87, Try.ntmps87
            go_upto_region 1 with fail
            rw [← HW0.out]
            obtain ⟨v0, v1, v2, v3, v4, v5⟩ := HB0.out.a.c
            obtain ⟨u0, u1, u2, u3, u4, u5⟩ := HB0.out.b.c
            go_wp2_with fail
            refine (HLV.out).mono ?_
            rintro e w1 ⟨p1, n1, p2, n2, rfl, m1, m2, m3, m4⟩
            obtain ⟨p1, q1, rfl⟩ := m1.slice
            obtain ⟨n1, r1, rfl⟩ := m2.slice
            obtain ⟨p2, q2, rfl⟩ := m3.slice
            obtain ⟨n2, r2, rfl⟩ := m4.slice
            unfold histV
            dsimp only
            have hk1 := (m1.kept.alloc (.cells #[.int .i64 X.sc, .int .u64 (X.ze : Int), .int .i64 X.po, .slice p1 (uvals X.pl).length q1, .int .i64 X.no, .slice n1 (uvals X.nl).length r1] 30)).alloc (.cells #[.int .i64 Y.sc, .int .u64 (Y.ze : Int), .int .i64 Y.po, .slice p2 (uvals Y.pl).length q2, .int .i64 Y.no, .slice n2 (uvals Y.nl).length r2] 30)
            have ha1 := (Kept.refl (fun _ => False) w1).alloc (.cells #[.int .i64 X.sc, .int .u64 (X.ze : Int), .int .i64 X.po, .slice p1 (uvals X.pl).length q1, .int .i64 X.no, .slice n1 (uvals X.nl).length r1] 30)
            have ha2 := (Kept.refl (fun _ => False) (w1.alloc (.cells #[.int .i64 X.sc, .int .u64 (X.ze : Int), .int .i64 X.po, .slice p1 (uvals X.pl).length q1, .int .i64 X.no, .slice n1 (uvals X.nl).length r1] 30))).alloc (.cells #[.int .i64 Y.sc, .int .u64 (Y.ze : Int), .int .i64 Y.po, .slice p2 (uvals Y.pl).length q2, .int .i64 Y.no, .slice n2 (uvals Y.nl).length r2] 30)
            obtain ⟨ws, hws⟩ : ∃ ws, ws = (w1.alloc (.cells #[.int .i64 X.sc, .int .u64 (X.ze : Int), .int .i64 X.po, .slice p1 (uvals X.pl).length q1, .int .i64 X.no, .slice n1 (uvals X.nl).length r1] 30)).alloc (.cells #[.int .i64 Y.sc, .int .u64 (Y.ze : Int), .int .i64 Y.po, .slice p2 (uvals Y.pl).length q2, .int .i64 Y.no, .slice n2 (uvals Y.nl).length r2] 30) := ⟨_, rfl⟩
            have hxb := (hist_boxed w1 X (.slice p1 (uvals X.pl).length q1) (.slice n1 (uvals X.nl).length r1)).same ha2 (fun x => x)
            have hyb := hist_boxed (w1.alloc (.cells #[.int .i64 X.sc, .int .u64 (X.ze : Int), .int .i64 X.po, .slice p1 (uvals X.pl).length q1, .int .i64 X.no, .slice n1 (uvals X.nl).length r1] 30)) Y (.slice p2 (uvals Y.pl).length q2) (.slice n2 (uvals Y.nl).length r2)
            rw [show (w1.alloc (.cells #[.int .i64 X.sc, .int .u64 (X.ze : Int), .int .i64 X.po, .slice p1 (uvals X.pl).length q1, .int .i64 X.no, .slice n1 (uvals X.nl).length r1] 30)).heap.size = w1.heap.size + 1 by simp] at hyb
            have htw := (Two2.mk m1 m2 m3 m4).on (ha1.trans ha2)
            rw [← hws] at hk1 hxb hyb htw
            have HXB := Lib.hid hxb
            have HYB := Lib.hid hyb
            have HTW := Lib.hid htw
            have HK1 := Lib.hid hk1
            have HBX := Lib.hid (HB0.out.on hk1)
            have HWS := Lib.hid hws
            clear m1 m2 m3 m4 hk1 htw hws v0 v1 v2 v3 v4 v5 u0 u1 u2 u3 u4 u5 hxb hyb ha1 ha2
            go_upto_region 2 with fail
            rw [← HWS.out]
            obtain ⟨x0, x1, x2, x3, x4, x5⟩ := HXB.out.c
            obtain ⟨y0, y1, y2, y3, y4, y5⟩ := HYB.out.c
            go_wp2_with fail
            refine (HC1.out _ HTW.out).mono ?_
            rintro e w4 ⟨v4, rfl, m4, k4⟩
            obtain ⟨a4, q4, rfl⟩ := m4.slice
            have hs4 := k4.alloc (.cells #[.int .i64 O1, .slice a4 (uvals L1).length q4] 28)
            have hm4 := m4.on ((Kept.refl (fun _ => False) w4).alloc (.cells #[.int .i64 O1, .slice a4 (uvals L1).length q4] 28))
            have hb4 := side_boxed w4 O1 (.slice a4 (uvals L1).length q4)
            obtain ⟨wx4, hwx4⟩ : ∃ w', w' = w4.alloc (.cells #[.int .i64 O1, .slice a4 (uvals L1).length q4] 28) := ⟨_, rfl⟩
            rw [← hwx4] at hs4 hm4 hb4
            have HS4 := Lib.hid hs4
            have HM4 := Lib.hid hm4
            have HSB4 := Lib.hid hb4
            have HWX4 := Lib.hid hwx4
            clear k4 m4 hs4 hm4 hb4 hwx4
            have HBX := Lib.hid (HBX.out.on HS4.out)
            have HTW := Lib.hid (HTW.out.on HS4.out)
            have HXB := Lib.hid (HXB.out.same HS4.out (fun x => x))
            have HYB := Lib.hid (HYB.out.same HS4.out (fun x => x))
            clear x0 x1 x2 x3 x4 x5 y0 y1 y2 y3 y4 y5
            go_upto_region 5 with fail
            rw [← HWX4.out]
            obtain ⟨x0, x1, x2, x3, x4, x5⟩ := HXB.out.c
            obtain ⟨y0, y1, y2, y3, y4, y5⟩ := HYB.out.c
            go_wp2_with fail
            refine (HC2.out _ HTW.out).mono ?_
            rintro e w5 ⟨v5, rfl, m5, k5⟩
            obtain ⟨a5, q5, rfl⟩ := m5.slice
            have hs5 := k5.alloc (.cells #[.int .i64 O2, .slice a5 (uvals L2).length q5] 28)
            have hm5 := m5.on ((Kept.refl (fun _ => False) w5).alloc (.cells #[.int .i64 O2, .slice a5 (uvals L2).length q5] 28))
            have hb5 := side_boxed w5 O2 (.slice a5 (uvals L2).length q5)
            obtain ⟨wx5, hwx5⟩ : ∃ w', w' = w5.alloc (.cells #[.int .i64 O2, .slice a5 (uvals L2).length q5] 28) := ⟨_, rfl⟩
            rw [← hwx5] at hs5 hm5 hb5
            have HS5 := Lib.hid hs5
            have HM5 := Lib.hid hm5
            have HSB5 := Lib.hid hb5
            have HWX5 := Lib.hid hwx5
            clear k5 m5 hs5 hm5 hb5 hwx5
            have HBX := Lib.hid (HBX.out.on HS5.out)
            have HTW := Lib.hid (HTW.out.on HS5.out)
            have HXB := Lib.hid (HXB.out.same HS5.out (fun x => x))
            have HYB := Lib.hid (HYB.out.same HS5.out (fun x => x))
            have HM4 := Lib.hid (HM4.out.on HS5.out)
            have HSB4 := Lib.hid (HSB4.out.same HS5.out (fun x => x))
            clear x0 x1 x2 x3 x4 x5 y0 y1 y2 y3 y4 y5
            go_upto_region 6 with fail
            rw [← HWX5.out]
            obtain ⟨x0, x1, x2, x3, x4, x5⟩ := HXB.out.c
            obtain ⟨y0, y1, y2, y3, y4, y5⟩ := HYB.out.c
            obtain ⟨s0, s1, s2, s3, s4, s5⟩ := HBX.out.r.c
            obtain ⟨g0, g1, g2, g3, g4, g5⟩ := HBX.out.r.f
            go_wp2
            refine hist_end (h := zeroH) (pv := .slice none 0 0) (nv := .slice none 0 0) Try.results87 rfl rfl rfl (HBX.out.r.set zeroH (.slice none 0 0) (.slice none 0 0)) ?_
            exact HBADS.out _ ((HK0.out.trans HTW.out.p1.kept).newer (set6_kept _ _ _ _ _ _ _ _) (fun i e => by omega))
      · cases K1 with
        | false => exact .inl rfl
        | true =>
          cases K2 with
          | false => exact .inr (.inl rfl)
          | true => exact .inr (.inr (by have h : ¬ Y.ze ≤ X.ze := fun h => hg ⟨rfl, rfl, h⟩; omega))
  · have qE : ((EL : Int) != 0) = true := bneT (by omega)
    have hres : PS zeroH EL := (hSH _ _).2 (.inl ⟨hz, rfl, rfl⟩)
    have HBADE : Hid (∀ w', Kept (fun _ => False) w w' → ∃ R E, PS R E ∧ HistNew w R E (.returned (.tuple #[histV zeroH (.slice none 0 0) (.slice none 0 0), .int .i64 (EL : Int)])) w') := Lib.hid fun w' k => ⟨_, _, hres, HistNew.zero k⟩
    clear hX hY hEL hlb k0 hw0 hlv hbad hright ha hb la1 la2 lb1 lb2 hSH hz hres
    obtain ⟨asc, aze, apo, apl, ano, anl⟩ := a
    obtain ⟨bsc, bze, bpo, bpl, bno, bnl⟩ := b
    unfold histV at HLV ⊢
    simp only at HLV HW0 ⊢
    go_enter Try.func87, Try.ntmps87
    go_upto_region 1 with fail
    rw [← HW0.out]
    obtain ⟨v0, v1, v2, v3, v4, v5⟩ := HB0.out.a.c
    obtain ⟨u0, u1, u2, u3, u4, u5⟩ := HB0.out.b.c
    go_wp2_with fail
    refine (HLV.out).mono ?_
    rintro e w1 ⟨p1, n1, p2, n2, rfl, m1, m2, m3, m4⟩
    obtain ⟨p1, q1, rfl⟩ := m1.slice
    obtain ⟨n1, r1, rfl⟩ := m2.slice
    obtain ⟨p2, q2, rfl⟩ := m3.slice
    obtain ⟨n2, r2, rfl⟩ := m4.slice
    unfold histV
    dsimp only
    have hk1 := (m1.kept.alloc (.cells #[.int .i64 X.sc, .int .u64 (X.ze : Int), .int .i64 X.po, .slice p1 (uvals X.pl).length q1, .int .i64 X.no, .slice n1 (uvals X.nl).length r1] 30)).alloc (.cells #[.int .i64 Y.sc, .int .u64 (Y.ze : Int), .int .i64 Y.po, .slice p2 (uvals Y.pl).length q2, .int .i64 Y.no, .slice n2 (uvals Y.nl).length r2] 30)
    have ha1 := (Kept.refl (fun _ => False) w1).alloc (.cells #[.int .i64 X.sc, .int .u64 (X.ze : Int), .int .i64 X.po, .slice p1 (uvals X.pl).length q1, .int .i64 X.no, .slice n1 (uvals X.nl).length r1] 30)
    have ha2 := (Kept.refl (fun _ => False) (w1.alloc (.cells #[.int .i64 X.sc, .int .u64 (X.ze : Int), .int .i64 X.po, .slice p1 (uvals X.pl).length q1, .int .i64 X.no, .slice n1 (uvals X.nl).length r1] 30))).alloc (.cells #[.int .i64 Y.sc, .int .u64 (Y.ze : Int), .int .i64 Y.po, .slice p2 (uvals Y.pl).length q2, .int .i64 Y.no, .slice n2 (uvals Y.nl).length r2] 30)
    obtain ⟨ws, hws⟩ : ∃ ws, ws = (w1.alloc (.cells #[.int .i64 X.sc, .int .u64 (X.ze : Int), .int .i64 X.po, .slice p1 (uvals X.pl).length q1, .int .i64 X.no, .slice n1 (uvals X.nl).length r1] 30)).alloc (.cells #[.int .i64 Y.sc, .int .u64 (Y.ze : Int), .int .i64 Y.po, .slice p2 (uvals Y.pl).length q2, .int .i64 Y.no, .slice n2 (uvals Y.nl).length r2] 30) := ⟨_, rfl⟩
    have hxb := (hist_boxed w1 X (.slice p1 (uvals X.pl).length q1) (.slice n1 (uvals X.nl).length r1)).same ha2 (fun x => x)
    have hyb := hist_boxed (w1.alloc (.cells #[.int .i64 X.sc, .int .u64 (X.ze : Int), .int .i64 X.po, .slice p1 (uvals X.pl).length q1, .int .i64 X.no, .slice n1 (uvals X.nl).length r1] 30)) Y (.slice p2 (uvals Y.pl).length q2) (.slice n2 (uvals Y.nl).length r2)
    rw [show (w1.alloc (.cells #[.int .i64 X.sc, .int .u64 (X.ze : Int), .int .i64 X.po, .slice p1 (uvals X.pl).length q1, .int .i64 X.no, .slice n1 (uvals X.nl).length r1] 30)).heap.size = w1.heap.size + 1 by simp] at hyb
    have htw := (Two2.mk m1 m2 m3 m4).on (ha1.trans ha2)
    rw [← hws] at hk1 hxb hyb htw
    have HXB := Lib.hid hxb
    have HYB := Lib.hid hyb
    have HTW := Lib.hid htw
    have HK1 := Lib.hid hk1
    have HBX := Lib.hid (HB0.out.on hk1)
    have HWS := Lib.hid hws
    clear m1 m2 m3 m4 hk1 htw hws v0 v1 v2 v3 v4 v5 u0 u1 u2 u3 u4 u5 hxb hyb ha1 ha2
    go_upto_region 2 with fail
    rw [← HWS.out]
    obtain ⟨s0, s1, s2, s3, s4, s5⟩ := HBX.out.r.c
    obtain ⟨g0, g1, g2, g3, g4, g5⟩ := HBX.out.r.f
    go_wp2
    refine hist_end (h := zeroH) (pv := .slice none 0 0) (nv := .slice none 0 0) Try.results87 rfl rfl rfl (HBX.out.r.set zeroH (.slice none 0 0) (.slice none 0 0)) ?_
    exact HBADE.out _ ((HK0.out.trans HTW.out.p1.kept).newer (set6_kept _ _ _ _ _ _ _ _) (fun i e => by omega))
end Go.Proofs.Ytiiibhdohlpodaa

