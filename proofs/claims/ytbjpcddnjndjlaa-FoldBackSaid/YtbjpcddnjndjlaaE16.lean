/- Layer 9: the walk of FoldLevels. -/
import Derived.Test.YtbjpcddnjndjlaaE15
namespace Go.Proofs.Ytbjpcddnjndjlaa
open Go.RowKit
attribute [local go_sem ↓] Go.wp_at_zero Go.wp_at_succ

/-- A pair in its block, its counts where it says. -/
structure PairAt (w : World) (q : Nat) (X Y : HistV) (p1 n1 p2 n2 : Value) (E : Nat) : Prop where
  box : PairBox w q X Y p1 n1 p2 n2 E
  x : HistAt w X p1 n1
  y : HistAt w Y p2 n2
theorem PairAt.on {w w' : World} {q : Nat} {X Y : HistV} {p1 n1 p2 n2 : Value} {E : Nat} (h : PairAt w q X Y p1 n1 p2 n2 E) (k : Kept (fun _ => False) w w') : PairAt w' q X Y p1 n1 p2 n2 E := ⟨h.box.same k (fun x => x), h.x.on k, h.y.on k⟩

set_option maxHeartbeats 4000000 in
set_option maxRecDepth 100000 in
theorem foldLevels_walk (a : HistV) (ap an : Value) (b : HistV) (bp bn : Value) (W : World) (ha : HistIn W a ap an) (hb : HistIn W b bp bn) :
    Calls Try.prog 8 #[histV a ap an, histV b bp bn] W fun e w' => e = .returned (.bool true) ∧ Kept (fun _ => False) W w' := by
  obtain ⟨⟨ao, c, rfl⟩, a1, c1, rfl⟩ := ha.at_.sl
  obtain ⟨⟨bo, d, rfl⟩, b1, d1, rfl⟩ := hb.at_.sl
  obtain ⟨w0, hw0⟩ : ∃ w0, w0 = (W.alloc (.cells #[.int .i64 a.sc, .int .u64 (a.ze : Int), .int .i64 a.po, .slice ao a.pl.length c, .int .i64 a.no, .slice a1 a.nl.length c1] 27)).alloc (.cells #[.int .i64 b.sc, .int .u64 (b.ze : Int), .int .i64 b.po, .slice bo b.pl.length d, .int .i64 b.no, .slice b1 b.nl.length d1] 27) := ⟨_, rfl⟩
  have k0 : Kept (fun _ => False) W w0 := by rw [hw0]; exact ((Kept.refl _ _).alloc _).alloc _
  have HVA : Hid (HV w0 W.heap.size a (.slice ao a.pl.length c) (.slice a1 a.nl.length c1)) := Lib.hid ⟨by rw [hw0]; exact (hist_boxed W a _ _).same ((Kept.refl (fun _ => False) _).alloc _) (fun x => x), ha.at_.on k0⟩
  have HVB : Hid (HV w0 (W.heap.size + 1) b (.slice bo b.pl.length d) (.slice b1 b.nl.length d1)) := Lib.hid ⟨by
    rw [hw0]
    have := hist_boxed (W.alloc (.cells #[.int .i64 a.sc, .int .u64 (a.ze : Int), .int .i64 a.po, .slice ao a.pl.length c, .int .i64 a.no, .slice a1 a.nl.length c1] 27)) b (.slice bo b.pl.length d) (.slice b1 b.nl.length d1)
    rwa [show (W.alloc (.cells #[.int .i64 a.sc, .int .u64 (a.ze : Int), .int .i64 a.po, .slice ao a.pl.length c, .int .i64 a.no, .slice a1 a.nl.length c1] 27)).heap.size = W.heap.size + 1 by simp] at this, hb.at_.on k0⟩
  have HKW := Lib.hid k0
  have HW0 := Lib.hid hw0
  have HAW := Lib.hid (awake9 w0)
  have HLA := Lib.hid fun w' (k : HistAt w' a (.slice ao a.pl.length c) (.slice a1 a.nl.length c1)) => refLight_any a _ _ w' k
  have HLB := Lib.hid fun w' (k : HistAt w' b (.slice bo b.pl.length d) (.slice b1 b.nl.length d1)) => refLight_any b _ _ w' k
  have HIA := Lib.hid fun w' (k : HistAt w' a (.slice ao a.pl.length c) (.slice a1 a.nl.length c1)) => (HistIn.mk k ha.ok ha.cp ha.cn)
  have HIB := Lib.hid fun w' (k : HistAt w' b (.slice bo b.pl.length d) (.slice b1 b.nl.length d1)) => (HistIn.mk k hb.ok hb.cp hb.cn)
  by_cases hla : a.pl.length ≤ 300 ∧ a.nl.length ≤ 300
  · by_cases hlb : b.pl.length ≤ 300 ∧ b.nl.length ≤ 300
    · rw [decide_eq_true hla] at HLA
      rw [decide_eq_true hlb] at HLB
      have HL1 := Lib.hid fun w' (k : HistAt w' a (.slice ao a.pl.length c) (.slice a1 a.nl.length c1)) (k2 : HistAt w' b (.slice bo b.pl.length d) (.slice b1 b.nl.length d1)) => foldLevel_any a b _ _ _ _ w' k k2 ha.ok hb.ok (by omega) (by omega) (by omega) (by omega)
      have HL2 := Lib.hid fun w' (k : HistAt w' a (.slice ao a.pl.length c) (.slice a1 a.nl.length c1)) (k2 : HistAt w' b (.slice bo b.pl.length d) (.slice b1 b.nl.length d1)) => refLevel_any a b _ _ _ _ w' (HIA.out w' k) (HIB.out w' k2) (by omega) (by omega) (by omega) (by omega)
      have lx : (levX a b).pl.length ≤ 300 ∧ (levX a b).nl.length ≤ 300 := by unfold levX; split; (have := downH_len a (a.sc - levS a b).toNat; omega); (unfold zeroH; simp)
      have ly : (levY a b).pl.length ≤ 300 ∧ (levY a b).nl.length ≤ 300 := by unfold levY; split; (have := downH_len b (b.sc - levS a b).toNat; omega); (unfold zeroH; simp)
      obtain ⟨X, hX⟩ : ∃ X, X = levX a b := ⟨_, rfl⟩
      obtain ⟨Y, hY⟩ : ∃ Y, Y = levY a b := ⟨_, rfl⟩
      obtain ⟨EL, hEL⟩ : ∃ E, E = levE a b := ⟨_, rfl⟩
      rw [← hX, ← hY, ← hEL] at HL1 HL2
      rw [← hX] at lx
      rw [← hY] at ly
      have HSX := Lib.hid fun w' p1 n1 p2 n2 (k1 : HistAt w' X p1 n1) (k2 : HistAt w' X p2 n2) => refSame_any X X p1 n1 p2 n2 w' k1 k2 (by omega) (by omega)
      have HSY := Lib.hid fun w' p1 n1 p2 n2 (k1 : HistAt w' Y p1 n1) (k2 : HistAt w' Y p2 n2) => refSame_any Y Y p1 n1 p2 n2 w' k1 k2 (by omega) (by omega)
      rw [decide_eq_true ((sameH_iff X X).mpr rfl)] at HSX
      rw [decide_eq_true ((sameH_iff Y Y).mpr rfl)] at HSY
      have qe : ((EL : Int) == (EL : Int)) = true := beqT rfl
      clear hX hY hEL lx ly ha hb hla hlb k0 hw0
      obtain ⟨asc, aze, apo, apl, ano, anl⟩ := a
      obtain ⟨bsc, bze, bpo, bpl, bno, bnl⟩ := b
      unfold histV at HLA HLB HL1 HL2 ⊢
      simp only at HLA HLB HL1 HL2 HW0 ⊢
      go_enter Try.func8, Try.ntmps8
      go_upto_region 1 with fail
      rw [← HW0.out]
      go_wp2_with fail
      refine HAW.out.mono ?_
      rintro e w1 ⟨rfl, k1⟩
      have HS1 := Lib.hid k1
      have HK1 := Lib.hid k1
      clear k1
      have HVA := Lib.hid (HVA.out.on HS1.out)
      have HVB := Lib.hid (HVB.out.on HS1.out)
      obtain ⟨hva0, hva1, hva2, hva3, hva4, hva5⟩ := HVA.out.box.c
      go_wp2_with fail
      refine (HLA.out _ HVA.out.at_).mono ?_
      rintro e w2 ⟨rfl, k2⟩
      have HS2 := Lib.hid k2
      clear k2
      have HK2 := Lib.hid (HK1.out.trans HS2.out)
      have HVA := Lib.hid (HVA.out.on HS2.out)
      have HVB := Lib.hid (HVB.out.on HS2.out)
      clear hva0 hva1 hva2 hva3 hva4 hva5
      obtain ⟨hvb0, hvb1, hvb2, hvb3, hvb4, hvb5⟩ := HVB.out.box.c
      go_wp2_with fail
      refine (HLB.out _ HVB.out.at_).mono ?_
      rintro e w3 ⟨rfl, k3⟩
      have HS3 := Lib.hid k3
      clear k3
      have HK3 := Lib.hid (HK2.out.trans HS3.out)
      have HVA := Lib.hid (HVA.out.on HS3.out)
      have HVB := Lib.hid (HVB.out.on HS3.out)
      clear hvb0 hvb1 hvb2 hvb3 hvb4 hvb5
      obtain ⟨hva0, hva1, hva2, hva3, hva4, hva5⟩ := HVA.out.box.c
      obtain ⟨hvb0, hvb1, hvb2, hvb3, hvb4, hvb5⟩ := HVB.out.box.c
      go_wp2_with fail
      refine (HL1.out _ HVA.out.at_ HVB.out.at_).mono ?_
      rintro e w4 ⟨p1, n1, p2, n2, rfl, m1, m2, m3, m4⟩
      obtain ⟨a4, q4, rfl⟩ := m1.slice
      obtain ⟨b4, r4, rfl⟩ := m2.slice
      obtain ⟨a5, q5, rfl⟩ := m3.slice
      obtain ⟨b5, r5, rfl⟩ := m4.slice
      unfold histV
      dsimp only
      have ha1 := (Kept.refl (fun _ => False) w4).alloc (.cells #[.int .i64 X.sc, .int .u64 (X.ze : Int), .int .i64 X.po, .slice a4 (uvals X.pl).length q4, .int .i64 X.no, .slice b4 (uvals X.nl).length r4] 27)
      have ha2 := (Kept.refl (fun _ => False) (w4.alloc (.cells #[.int .i64 X.sc, .int .u64 (X.ze : Int), .int .i64 X.po, .slice a4 (uvals X.pl).length q4, .int .i64 X.no, .slice b4 (uvals X.nl).length r4] 27))).alloc (.cells #[.int .i64 Y.sc, .int .u64 (Y.ze : Int), .int .i64 Y.po, .slice a5 (uvals Y.pl).length q5, .int .i64 Y.no, .slice b5 (uvals Y.nl).length r5] 27)
      have hs := (m1.kept.trans ha1).trans ha2
      have hx : HV _ _ X _ _ := ⟨hist_boxed w4 X (.slice a4 (uvals X.pl).length q4) (.slice b4 (uvals X.nl).length r4), (HistAt.mk m1.at_ m2.at_).on ha1⟩
      have hx2 := hx.on ha2
      have hy := hist_boxed (w4.alloc (.cells #[.int .i64 X.sc, .int .u64 (X.ze : Int), .int .i64 X.po, .slice a4 (uvals X.pl).length q4, .int .i64 X.no, .slice b4 (uvals X.nl).length r4] 27)) Y (.slice a5 (uvals Y.pl).length q5) (.slice b5 (uvals Y.nl).length r5)
      rw [show (w4.alloc (.cells #[.int .i64 X.sc, .int .u64 (X.ze : Int), .int .i64 X.po, .slice a4 (uvals X.pl).length q4, .int .i64 X.no, .slice b4 (uvals X.nl).length r4] 27)).heap.size = w4.heap.size + 1 by simp] at hy
      have hy2 : HV ((w4.alloc (.cells #[.int .i64 X.sc, .int .u64 (X.ze : Int), .int .i64 X.po, .slice a4 (uvals X.pl).length q4, .int .i64 X.no, .slice b4 (uvals X.nl).length r4] 27)).alloc (.cells #[.int .i64 Y.sc, .int .u64 (Y.ze : Int), .int .i64 Y.po, .slice a5 (uvals Y.pl).length q5, .int .i64 Y.no, .slice b5 (uvals Y.nl).length r5] 27)) (w4.heap.size + 1) Y (.slice a5 (uvals Y.pl).length q5) (.slice b5 (uvals Y.nl).length r5) := ⟨hy, (HistAt.mk m3.at_ m4.at_).on (ha1.trans ha2)⟩
      obtain ⟨ws4, hws⟩ : ∃ w', w' = (w4.alloc (.cells #[.int .i64 X.sc, .int .u64 (X.ze : Int), .int .i64 X.po, .slice a4 (uvals X.pl).length q4, .int .i64 X.no, .slice b4 (uvals X.nl).length r4] 27)).alloc (.cells #[.int .i64 Y.sc, .int .u64 (Y.ze : Int), .int .i64 Y.po, .slice a5 (uvals Y.pl).length q5, .int .i64 Y.no, .slice b5 (uvals Y.nl).length r5] 27) := ⟨_, rfl⟩
      rw [← hws] at hs hx2 hy2
      have HS4 := Lib.hid hs
      have HVX := Lib.hid hx2
      have HVY := Lib.hid hy2
      have HWS4 := Lib.hid hws
      have HK4 := Lib.hid (HK3.out.trans hs)
      clear hs hx hx2 hy hy2 ha1 ha2 hws m1 m2 m3 m4
      have HVA := Lib.hid (HVA.out.on HS4.out)
      have HVB := Lib.hid (HVB.out.on HS4.out)
      clear hva0 hva1 hva2 hva3 hva4 hva5 hvb0 hvb1 hvb2 hvb3 hvb4 hvb5
      go_upto_region 6 with fail
      rw [← HWS4.out]
      obtain ⟨hva0, hva1, hva2, hva3, hva4, hva5⟩ := HVA.out.box.c
      obtain ⟨hvb0, hvb1, hvb2, hvb3, hvb4, hvb5⟩ := HVB.out.box.c
      go_wp2_with fail
      refine (HL2.out _ HVA.out.at_ HVB.out.at_).mono ?_
      rintro e w5 ⟨p1, n1, p2, n2, rfl, m1, m2, m3, m4⟩
      obtain ⟨a6, q6, rfl⟩ := m1.slice
      obtain ⟨b6, r6, rfl⟩ := m2.slice
      obtain ⟨a7, q7, rfl⟩ := m3.slice
      obtain ⟨b7, r7, rfl⟩ := m4.slice
      unfold pairV
      dsimp only
      have ha1 := (Kept.refl (fun _ => False) w5).alloc (.cells #[.int .i64 X.sc, .int .u64 (X.ze : Int), .int .i64 X.po, .slice a6 (uvals X.pl).length q6, .int .i64 X.no, .slice b6 (uvals X.nl).length r6, .int .i64 Y.sc, .int .u64 (Y.ze : Int), .int .i64 Y.po, .slice a7 (uvals Y.pl).length q7, .int .i64 Y.no, .slice b7 (uvals Y.nl).length r7, .int .i64 (EL : Int)] 47)
      have hs := m1.kept.trans ha1
      have hp := pair_boxed w5 X Y (.slice a6 (uvals X.pl).length q6) (.slice b6 (uvals X.nl).length r6) (.slice a7 (uvals Y.pl).length q7) (.slice b7 (uvals Y.nl).length r7) EL
      have ht := (Two2.mk m1 m2 m3 m4).on ha1
      obtain ⟨ws5, hws⟩ : ∃ w', w' = w5.alloc (.cells #[.int .i64 X.sc, .int .u64 (X.ze : Int), .int .i64 X.po, .slice a6 (uvals X.pl).length q6, .int .i64 X.no, .slice b6 (uvals X.nl).length r6, .int .i64 Y.sc, .int .u64 (Y.ze : Int), .int .i64 Y.po, .slice a7 (uvals Y.pl).length q7, .int .i64 Y.no, .slice b7 (uvals Y.nl).length r7, .int .i64 (EL : Int)] 47) := ⟨_, rfl⟩
      rw [← hws] at hs hp ht
      have HS5 := Lib.hid hs
      have HPB := Lib.hid (PairAt.mk hp ht.atX ht.atY)
      have HWS5 := Lib.hid hws
      have HK5 := Lib.hid (HK4.out.trans hs)
      clear hs hp ht ha1 hws m1 m2 m3 m4
      have HVA := Lib.hid (HVA.out.on HS5.out)
      have HVB := Lib.hid (HVB.out.on HS5.out)
      have HVX := Lib.hid (HVX.out.on HS5.out)
      have HVY := Lib.hid (HVY.out.on HS5.out)
      clear hva0 hva1 hva2 hva3 hva4 hva5 hvb0 hvb1 hvb2 hvb3 hvb4 hvb5
      go_upto_region 7 with fail
      rw [← HWS5.out]
      obtain ⟨⟨hp0, hp1, hp2, hp3, hp4, hp5⟩, ⟨hp6, hp7, hp8, hp9, hp10, hp11⟩, hp12⟩ := HPB.out.box.c
      obtain ⟨hvx0, hvx1, hvx2, hvx3, hvx4, hvx5⟩ := HVX.out.box.c
      go_wp2_with fail
      refine (HSX.out _ _ _ _ _ HVX.out.at_ HPB.out.x).mono ?_
      rintro e w6 ⟨rfl, k6⟩
      have HS6 := Lib.hid k6
      clear k6
      have HK6 := Lib.hid (HK5.out.trans HS6.out)
      have HVX := Lib.hid (HVX.out.on HS6.out)
      have HVY := Lib.hid (HVY.out.on HS6.out)
      have HPB := Lib.hid (HPB.out.on HS6.out)
      clear hvx0 hvx1 hvx2 hvx3 hvx4 hvx5
      clear hp0 hp1 hp2 hp3 hp4 hp5 hp6 hp7 hp8 hp9 hp10 hp11 hp12
      obtain ⟨⟨hp0, hp1, hp2, hp3, hp4, hp5⟩, ⟨hp6, hp7, hp8, hp9, hp10, hp11⟩, hp12⟩ := HPB.out.box.c
      obtain ⟨hvy0, hvy1, hvy2, hvy3, hvy4, hvy5⟩ := HVY.out.box.c
      go_wp2_with fail
      refine (HSY.out _ _ _ _ _ HVY.out.at_ HPB.out.y).mono ?_
      rintro e w7 ⟨rfl, k7⟩
      have HS7 := Lib.hid k7
      clear k7
      have HK7 := Lib.hid (HK6.out.trans HS7.out)
      have HVX := Lib.hid (HVX.out.on HS7.out)
      have HVY := Lib.hid (HVY.out.on HS7.out)
      have HPB := Lib.hid (HPB.out.on HS7.out)
      clear hvy0 hvy1 hvy2 hvy3 hvy4 hvy5
      clear hp0 hp1 hp2 hp3 hp4 hp5 hp6 hp7 hp8 hp9 hp10 hp11 hp12
      obtain ⟨⟨hp0, hp1, hp2, hp3, hp4, hp5⟩, ⟨hp6, hp7, hp8, hp9, hp10, hp11⟩, hp12⟩ := HPB.out.box.c
      go_wp2
      go_ret
      exact ⟨rfl, HKW.out.trans HK7.out⟩
    · rw [decide_eq_true hla] at HLA
      rw [decide_eq_false hlb] at HLB
      clear ha hb hla hlb k0 hw0
      obtain ⟨asc, aze, apo, apl, ano, anl⟩ := a
      obtain ⟨bsc, bze, bpo, bpl, bno, bnl⟩ := b
      unfold histV at HLA HLB ⊢
      simp only at HLA HLB HW0 ⊢
      go_enter Try.func8, Try.ntmps8
      go_upto_region 1 with fail
      rw [← HW0.out]
      go_wp2_with fail
      refine HAW.out.mono ?_
      rintro e w1 ⟨rfl, k1⟩
      have HS1 := Lib.hid k1
      have HK1 := Lib.hid k1
      clear k1
      have HVA := Lib.hid (HVA.out.on HS1.out)
      have HVB := Lib.hid (HVB.out.on HS1.out)
      obtain ⟨hva0, hva1, hva2, hva3, hva4, hva5⟩ := HVA.out.box.c
      go_wp2_with fail
      refine (HLA.out _ HVA.out.at_).mono ?_
      rintro e w2 ⟨rfl, k2⟩
      have HS2 := Lib.hid k2
      clear k2
      have HK2 := Lib.hid (HK1.out.trans HS2.out)
      have HVA := Lib.hid (HVA.out.on HS2.out)
      have HVB := Lib.hid (HVB.out.on HS2.out)
      clear hva0 hva1 hva2 hva3 hva4 hva5
      obtain ⟨hvb0, hvb1, hvb2, hvb3, hvb4, hvb5⟩ := HVB.out.box.c
      go_wp2_with fail
      refine (HLB.out _ HVB.out.at_).mono ?_
      rintro e w3 ⟨rfl, k3⟩
      have HS3 := Lib.hid k3
      clear k3
      have HK3 := Lib.hid (HK2.out.trans HS3.out)
      have HVA := Lib.hid (HVA.out.on HS3.out)
      have HVB := Lib.hid (HVB.out.on HS3.out)
      clear hvb0 hvb1 hvb2 hvb3 hvb4 hvb5
      go_wp2
      go_ret
      exact ⟨rfl, HKW.out.trans HK3.out⟩
  · rw [decide_eq_false hla] at HLA
    clear ha hb hla k0 hw0
    obtain ⟨asc, aze, apo, apl, ano, anl⟩ := a
    obtain ⟨bsc, bze, bpo, bpl, bno, bnl⟩ := b
    unfold histV at HLA HLB ⊢
    simp only at HLA HLB HW0 ⊢
    go_enter Try.func8, Try.ntmps8
    go_upto_region 1 with fail
    rw [← HW0.out]
    go_wp2_with fail
    refine HAW.out.mono ?_
    rintro e w1 ⟨rfl, k1⟩
    have HS1 := Lib.hid k1
    have HK1 := Lib.hid k1
    clear k1
    have HVA := Lib.hid (HVA.out.on HS1.out)
    have HVB := Lib.hid (HVB.out.on HS1.out)
    obtain ⟨hva0, hva1, hva2, hva3, hva4, hva5⟩ := HVA.out.box.c
    go_wp2_with fail
    refine (HLA.out _ HVA.out.at_).mono ?_
    rintro e w2 ⟨rfl, k2⟩
    have HS2 := Lib.hid k2
    clear k2
    have HK2 := Lib.hid (HK1.out.trans HS2.out)
    have HVA := Lib.hid (HVA.out.on HS2.out)
    have HVB := Lib.hid (HVB.out.on HS2.out)
    clear hva0 hva1 hva2 hva3 hva4 hva5
    go_wp2
    go_ret
    exact ⟨rfl, HKW.out.trans HK2.out⟩
end Go.Proofs.Ytbjpcddnjndjlaa
