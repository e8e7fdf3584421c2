/- Layer 9: the walk of FoldBack. -/
import Derived.Test.YtbjpcddnjndjlaaE18
namespace Go.Proofs.Ytbjpcddnjndjlaa
open Go.RowKit
attribute [local go_sem ↓] Go.wp_at_zero Go.wp_at_succ

set_option maxHeartbeats 4000000 in
set_option maxRecDepth 100000 in
theorem foldBack_walk (a : HistV) (ap an : Value) (b : HistV) (bp bn : Value) (W : World) (ha : HistIn W a ap an) (hb : HistIn W b bp bn) :
    Calls Try.prog 10 #[histV a ap an, histV b bp bn] W fun e w' => e = .returned (.bool true) ∧ Kept (fun _ => False) W w' := by
  obtain ⟨⟨ao, c, rfl⟩, a1, c1, rfl⟩ := ha.at_.sl
  obtain ⟨⟨bo, d, rfl⟩, b1, d1, rfl⟩ := hb.at_.sl
  obtain ⟨w0, hw0⟩ : ∃ w0, w0 = (W.alloc (.cells #[.int .i64 a.sc, .int .u64 (a.ze : Int), .int .i64 a.po, .slice ao a.pl.length c, .int .i64 a.no, .slice a1 a.nl.length c1] 27)).alloc (.cells #[.int .i64 b.sc, .int .u64 (b.ze : Int), .int .i64 b.po, .slice bo b.pl.length d, .int .i64 b.no, .slice b1 b.nl.length d1] 27) := ⟨_, rfl⟩
  have k0 : Kept (fun _ => False) W w0 := by rw [hw0]; exact ((Kept.refl _ _).alloc _).alloc _
  have HVA : Hid (HV w0 W.heap.size a (.slice ao a.pl.length c) (.slice a1 a.nl.length c1)) := Lib.hid ⟨by rw [hw0]; exact (hist_boxed W a _ _).same ((Kept.refl (fun _ => False) _).alloc _) (fun x => x), ha.at_.on k0⟩
  have HVB : Hid (HV w0 (W.heap.size + 1) b (.slice bo b.pl.length d) (.slice b1 b.nl.length d1)) := Lib.hid ⟨by
    rw [hw0]
    have := hist_boxed (W.alloc (.cells #[.int .i64 a.sc, .int .u64 (a.ze : Int), .int .i64 a.po, .slice ao a.pl.length c, .int .i64 a.no, .slice a1 a.nl.length c1] 27)) b (.slice bo b.pl.length d) (.slice b1 b.nl.length d1)
    rwa [show (W.alloc (.cells #[.int .i64 a.sc, .int .u64 (a.ze : Int), .int .i64 a.po, .slice ao a.pl.length c, .int .i64 a.no, .slice a1 a.nl.length c1] 27)).heap.size = W.heap.size + 1 by simp] at this, hb.at_.on k0⟩
  have HKW := Lib.hid k0
  have HW0 := Lib.hid hw0
  have HAW := Lib.hid (awake9 w0)
  have HLA := Lib.hid fun w' (k : HistAt w' a (.slice ao a.pl.length c) (.slice a1 a.nl.length c1)) => refLight_any a _ _ w' k
  have HLB := Lib.hid fun w' (k : HistAt w' b (.slice bo b.pl.length d) (.slice b1 b.nl.length d1)) => refLight_any b _ _ w' k
  have HIA := Lib.hid fun w' (k : HistAt w' a (.slice ao a.pl.length c) (.slice a1 a.nl.length c1)) => (HistIn.mk k ha.ok ha.cp ha.cn)
  have HIB := Lib.hid fun w' (k : HistAt w' b (.slice bo b.pl.length d) (.slice b1 b.nl.length d1)) => (HistIn.mk k hb.ok hb.cp hb.cn)
  by_cases hla : a.pl.length ≤ 300 ∧ a.nl.length ≤ 300
  · by_cases hlb : b.pl.length ≤ 300 ∧ b.nl.length ≤ 300
    · rw [decide_eq_true hla] at HLA
      rw [decide_eq_true hlb] at HLB
      have HM1 := Lib.hid fun w' (k : HistAt w' a (.slice ao a.pl.length c) (.slice a1 a.nl.length c1)) (k2 : HistAt w' b (.slice bo b.pl.length d) (.slice b1 b.nl.length d1)) => foldMerge_any a b _ _ _ _ w' (HIA.out w' k) (HIB.out w' k2) (by omega) (by omega) (by omega) (by omega)
      have lm := mgH_len (a := a) (b := b) ha.ok hb.ok
      by_cases hE : mgE a b = 0
      · obtain ⟨hL, hT, hN1, hN2⟩ := mgE_zero hE
        obtain ⟨ea, eb, ex, _, okx, _, tx, ty⟩ := lev_right hL ha.ok hb.ok
        obtain ⟨me, mt, msc, mok⟩ := mg_right hE ha.ok hb.ok
        obtain ⟨bk1, bk2, bk3⟩ := fold_back hE ha.ok hb.ok
        obtain ⟨_, d1', _, d2', _⟩ := lev_good ea eb
        obtain ⟨⟨a1', a2'⟩, _, _, tla⟩ := err_light ea
        obtain ⟨⟨b1', b2'⟩, _, _, tlb⟩ := err_light eb
        obtain ⟨_, _, _, tlm⟩ := err_light me
        have hsm := levS_min a b
        have lx : (levX a b).pl.length ≤ 300 ∧ (levX a b).nl.length ≤ 300 := by unfold levX; split <;> first | (have := downH_len a (a.sc - levS a b).toNat; omega) | (unfold zeroH; simp)
        have HD := Lib.hid fun w' (k : HistAt w' a (.slice ao a.pl.length c) (.slice a1 a.nl.length c1)) => histDown_any a (a.sc - levS a b) _ _ w' k ha.ok (by omega) (by omega) ⟨by omega, by omega⟩
        rw [d1', ← d2'] at HD
        have HM2 := Lib.hid fun w' (k : HistAt w' a (.slice ao a.pl.length c) (.slice a1 a.nl.length c1)) (k2 : HistAt w' b (.slice bo b.pl.length d) (.slice b1 b.nl.length d1)) => foldMerge_any b a _ _ _ _ w' (HIB.out w' k2) (HIA.out w' k) (by omega) (by omega) (by omega) (by omega)
        rw [bk2, bk3] at HM2
        rw [hE] at HM1
        rw [mt] at tlm
        obtain ⟨RM, hRM⟩ : ∃ R, R = mgH a b := ⟨_, rfl⟩
        obtain ⟨X, hX⟩ : ∃ X, X = levX a b := ⟨_, rfl⟩
        rw [← hRM] at HM1 HM2 lm me mt msc mok bk1
        rw [← hX] at HD lx bk1
        have HSB := Lib.hid fun w' p n (k : HistAt w' RM p n) (hc : ∀ a n c, p = .slice a n c → n ≤ c) (hc2 : ∀ a m c, n = .slice a m c → m ≤ c) (k2 : HistAt w' b (.slice bo b.pl.length d) (.slice b1 b.nl.length d1)) => foldSub_any RM b _ _ _ _ w' ⟨k, mok, hc, hc2⟩ (HIB.out w' k2) (by omega) (by omega) (by omega) (by omega)
        have HUS := Lib.hid fun R E (h : SubH RM b R E) => SubH.uniq bk1 h
        obtain ⟨PS, hPS⟩ : ∃ P : HistV → Nat → Prop, P = SubH RM b := ⟨_, rfl⟩
        rw [← hPS] at HSB HUS
        have HTA := Lib.hid fun w' (k : HistAt w' a (.slice ao a.pl.length c) (.slice a1 a.nl.length c1)) => histTotal_any a _ _ w' k ha.ok.ze (by omega) (by omega) ha.ok.pl ha.ok.nl
        have HTB := Lib.hid fun w' (k : HistAt w' b (.slice bo b.pl.length d) (.slice b1 b.nl.length d1)) => histTotal_any b _ _ w' k hb.ok.ze (by omega) (by omega) hb.ok.pl hb.ok.nl
        have HTM := Lib.hid fun w' p n (k : HistAt w' RM p n) => histTotal_any RM p n w' k mok.ze (by omega) (by omega) mok.pl mok.nl
        have ta : totV a = .tuple #[.int .u64 (a.total : Int), .bool true] := by unfold totV; rw [if_pos tla, decide_eq_true tla]
        have tb : totV b = .tuple #[.int .u64 (b.total : Int), .bool true] := by unfold totV; rw [if_pos tlb, decide_eq_true tlb]
        have tm : totV RM = .tuple #[.int .u64 ((a.total + b.total : Nat) : Int), .bool true] := by unfold totV; rw [mt, if_pos tlm, decide_eq_true tlm]
        rw [ta] at HTA
        rw [tb] at HTB
        rw [tm] at HTM
        obtain ⟨TA, hTA⟩ : ∃ T, T = a.total := ⟨_, rfl⟩
        obtain ⟨TB, hTB⟩ : ∃ T, T = b.total := ⟨_, rfl⟩
        rw [← hTA, ← hTB] at HTM tlm
        rw [← hTA] at HTA
        rw [← hTB] at HTB
        obtain ⟨TM, hTM⟩ : ∃ T, T = TA + TB := ⟨_, rfl⟩
        rw [← hTM] at HTM
        have u1 : IntKind.u64.wrap ((TA : Int) + (TB : Int)) = (TM : Int) := by rw [IntKind.wrap_u64]; omega
        have u2 : (TA : Int) + (TB : Int) = (TM : Int) := by omega
        have u3 : IntKind.u64.wrap (TM : Int) = (TM : Int) := by rw [IntKind.wrap_u64]; omega
        have qt : ((TM : Int) != (TM : Int)) = false := bneF rfl
        have HCK := Lib.hid fun w' p n (k : HistAt w' RM p n) => histCheck_any RM p n w' k mok (by omega) (by omega)
        rw [me] at HCK
        have HSX := Lib.hid fun w' p1 n1 p2 n2 (k1 : HistAt w' X p1 n1) (k2 : HistAt w' X p2 n2) => refSame_any X X p1 n1 p2 n2 w' k1 k2 (by omega) (by omega)
        have HSM := Lib.hid fun w' p1 n1 p2 n2 (k1 : HistAt w' RM p1 n1) (k2 : HistAt w' RM p2 n2) => refSame_any RM RM p1 n1 p2 n2 w' k1 k2 (by omega) (by omega)
        rw [decide_eq_true ((sameH_iff X X).mpr rfl)] at HSX
        rw [decide_eq_true ((sameH_iff RM RM).mpr rfl)] at HSM
        rw [hsm] at HD msc
        clear hL hT hN1 hN2 ea eb ex okx tx ty me mt mok bk1 bk2 bk3 d1' d2' tla tlb tlm lx lm ta tb tm hTA hTB hTM hRM hX hPS hE ha hb hla hlb k0 hw0 hsm
        by_cases hle : a.sc ≤ b.sc
        · have hm : min a.sc b.sc = a.sc := Int.min_eq_left hle
          have hd := HD.out
          rw [hm, Int.sub_self] at hd
          have HDX := Lib.hid hd
          clear HD
          rw [hm] at msc
          have qs : (RM.sc == a.sc) = true := beqT msc
          clear hm hd msc
          obtain ⟨asc, aze, apo, apl, ano, anl⟩ := a
          obtain ⟨bsc, bze, bpo, bpl, bno, bnl⟩ := b
          unfold histV at HLA HLB HM1 HM2 HSB HDX HTA HTB ⊢
          simp only at HLA HLB HM1 HM2 HSB HDX HTA HTB HW0 qs hle a1' a2' b1' b2' ⊢
          go_enter Try.func10, Try.ntmps10
          go_upto_region 1 with fail
          rw [← HW0.out]
          go_wp2_with fail
          refine HAW.out.mono ?_
          rintro e w1 ⟨rfl, k1⟩
          have HS1 := Lib.hid k1
          have HK1 := Lib.hid k1
          clear k1
          have HVA := Lib.hid (HVA.out.on HS1.out)
          have HVB := Lib.hid (HVB.out.on HS1.out)
          obtain ⟨hva0, hva1, hva2, hva3, hva4, hva5⟩ := HVA.out.box.c
          go_wp2_with fail
          refine (HLA.out _ HVA.out.at_).mono ?_
          rintro e w2 ⟨rfl, k2⟩
          have HS2 := Lib.hid k2
          clear k2
          have HK2 := Lib.hid (HK1.out.trans HS2.out)
          have HVA := Lib.hid (HVA.out.on HS2.out)
          have HVB := Lib.hid (HVB.out.on HS2.out)
          clear hva0 hva1 hva2 hva3 hva4 hva5
          obtain ⟨hvb0, hvb1, hvb2, hvb3, hvb4, hvb5⟩ := HVB.out.box.c
          go_wp2_with fail
          refine (HLB.out _ HVB.out.at_).mono ?_
          rintro e w3 ⟨rfl, k3⟩
          have HS3 := Lib.hid k3
          clear k3
          have HK3 := Lib.hid (HK2.out.trans HS3.out)
          have HVA := Lib.hid (HVA.out.on HS3.out)
          have HVB := Lib.hid (HVB.out.on HS3.out)
          clear hvb0 hvb1 hvb2 hvb3 hvb4 hvb5
          obtain ⟨hva0, hva1, hva2, hva3, hva4, hva5⟩ := HVA.out.box.c
          obtain ⟨hvb0, hvb1, hvb2, hvb3, hvb4, hvb5⟩ := HVB.out.box.c
          go_wp2_with fail
          refine (HM1.out _ HVA.out.at_ HVB.out.at_).mono ?_
          rintro e w4 ⟨pv, nv, rfl, m1, m2⟩
          have hc1 := fun a n c (e : pv = .slice a n c) => (by subst e; have := own_cap m1.own; have h2 := ownsRow_slice m1.own; obtain ⟨_, _, h3⟩ := h2; injection h3 with _ h4 _; omega : n ≤ c)
          have hc2 := fun a n c (e : nv = .slice a n c) => (by subst e; have := own_cap m2.own; have h2 := ownsRow_slice m2.own; obtain ⟨_, _, h3⟩ := h2; injection h3 with _ h4 _; omega : n ≤ c)
          have HC1 := Lib.hid hc1
          have HC2 := Lib.hid hc2
          clear hc1 hc2
          obtain ⟨a4, q4, rfl⟩ := m1.slice
          obtain ⟨b4, r4, rfl⟩ := m2.slice
          unfold histV
          dsimp only
          have hs := m1.kept.alloc (.cells #[.int .i64 RM.sc, .int .u64 (RM.ze : Int), .int .i64 RM.po, .slice a4 (uvals RM.pl).length q4, .int .i64 RM.no, .slice b4 (uvals RM.nl).length r4] 27)
          have hv := HV.mk' m1 m2
          obtain ⟨ws4, hws⟩ : ∃ w', w' = w4.alloc (.cells #[.int .i64 RM.sc, .int .u64 (RM.ze : Int), .int .i64 RM.po, .slice a4 (uvals RM.pl).length q4, .int .i64 RM.no, .slice b4 (uvals RM.nl).length r4] 27) := ⟨_, rfl⟩
          rw [← hws] at hs hv
          have HS4 := Lib.hid hs
          have HV4 := Lib.hid hv
          have HWS4 := Lib.hid hws
          clear hs hv hws m1 m2
          have HK4 := Lib.hid (HK3.out.trans HS4.out)
          have HVA := Lib.hid (HVA.out.on HS4.out)
          have HVB := Lib.hid (HVB.out.on HS4.out)
          clear hva0 hva1 hva2 hva3 hva4 hva5 hvb0 hvb1 hvb2 hvb3 hvb4 hvb5
          go_upto_region 6 with fail
          rw [← HWS4.out]
          obtain ⟨hva0, hva1, hva2, hva3, hva4, hva5⟩ := HVA.out.box.c
          go_wp2_with fail
          refine (HTA.out _ HVA.out.at_).mono ?_
          rintro e w5 ⟨rfl, k5⟩
          have HS5 := Lib.hid k5
          clear k5
          have HK5 := Lib.hid (HK4.out.trans HS5.out)
          have HVA := Lib.hid (HVA.out.on HS5.out)
          have HVB := Lib.hid (HVB.out.on HS5.out)
          have HV4 := Lib.hid (HV4.out.on HS5.out)
          clear hva0 hva1 hva2 hva3 hva4 hva5
          obtain ⟨hvb0, hvb1, hvb2, hvb3, hvb4, hvb5⟩ := HVB.out.box.c
          go_wp2_with fail
          refine (HTB.out _ HVB.out.at_).mono ?_
          rintro e w6 ⟨rfl, k6⟩
          have HS6 := Lib.hid k6
          clear k6
          have HK6 := Lib.hid (HK5.out.trans HS6.out)
          have HVA := Lib.hid (HVA.out.on HS6.out)
          have HVB := Lib.hid (HVB.out.on HS6.out)
          have HV4 := Lib.hid (HV4.out.on HS6.out)
          clear hvb0 hvb1 hvb2 hvb3 hvb4 hvb5
          obtain ⟨hv40, hv41, hv42, hv43, hv44, hv45⟩ := HV4.out.box.c
          go_wp2_with fail
          refine (HTM.out _ _ _ HV4.out.at_).mono ?_
          rintro e w7 ⟨rfl, k7⟩
          have HS7 := Lib.hid k7
          clear k7
          have HK7 := Lib.hid (HK6.out.trans HS7.out)
          have HVA := Lib.hid (HVA.out.on HS7.out)
          have HVB := Lib.hid (HVB.out.on HS7.out)
          have HV4 := Lib.hid (HV4.out.on HS7.out)
          clear hv40 hv41 hv42 hv43 hv44 hv45
          obtain ⟨hv40, hv41, hv42, hv43, hv44, hv45⟩ := HV4.out.box.c
          obtain ⟨hvb0, hvb1, hvb2, hvb3, hvb4, hvb5⟩ := HVB.out.box.c
          go_wp2_with fail
          refine (HSB.out _ _ _ HV4.out.at_ HC1.out HC2.out HVB.out.at_).mono ?_
          rintro e w8 ⟨R', E', hr, pv, nv, rfl, m1, m2⟩
          obtain ⟨rfl, rfl⟩ := HUS.out _ _ hr
          clear hr
          obtain ⟨a8, q8, rfl⟩ := m1.slice
          obtain ⟨b8, r8, rfl⟩ := m2.slice
          unfold histV
          dsimp only
          have hs := m1.kept.alloc (.cells #[.int .i64 X.sc, .int .u64 (X.ze : Int), .int .i64 X.po, .slice a8 (uvals X.pl).length q8, .int .i64 X.no, .slice b8 (uvals X.nl).length r8] 27)
          have hv := HV.mk' m1 m2
          obtain ⟨ws8, hws⟩ : ∃ w', w' = w8.alloc (.cells #[.int .i64 X.sc, .int .u64 (X.ze : Int), .int .i64 X.po, .slice a8 (uvals X.pl).length q8, .int .i64 X.no, .slice b8 (uvals X.nl).length r8] 27) := ⟨_, rfl⟩
          rw [← hws] at hs hv
          have HS8 := Lib.hid hs
          have HV8 := Lib.hid hv
          have HWS8 := Lib.hid hws
          clear hs hv hws m1 m2
          have HK8 := Lib.hid (HK7.out.trans HS8.out)
          have HVA := Lib.hid (HVA.out.on HS8.out)
          have HVB := Lib.hid (HVB.out.on HS8.out)
          have HV4 := Lib.hid (HV4.out.on HS8.out)
          clear hv40 hv41 hv42 hv43 hv44 hv45 hvb0 hvb1 hvb2 hvb3 hvb4 hvb5
          go_upto_region 12 with fail
          rw [← HWS8.out]
          obtain ⟨hva0, hva1, hva2, hva3, hva4, hva5⟩ := HVA.out.box.c
          obtain ⟨hvb0, hvb1, hvb2, hvb3, hvb4, hvb5⟩ := HVB.out.box.c
          go_wp2_with fail
          refine (HDX.out _ HVA.out.at_).mono ?_
          rintro e w9 ⟨pv, nv, rfl, m1, m2, _⟩
          obtain ⟨a9, q9, rfl⟩ := m1.slice
          obtain ⟨b9, r9, rfl⟩ := m2.slice
          unfold histV
          dsimp only
          have hs := m1.kept.alloc (.cells #[.int .i64 X.sc, .int .u64 (X.ze : Int), .int .i64 X.po, .slice a9 (uvals X.pl).length q9, .int .i64 X.no, .slice b9 (uvals X.nl).length r9] 27)
          have hv := HV.mk' m1 m2
          obtain ⟨ws9, hws⟩ : ∃ w', w' = w9.alloc (.cells #[.int .i64 X.sc, .int .u64 (X.ze : Int), .int .i64 X.po, .slice a9 (uvals X.pl).length q9, .int .i64 X.no, .slice b9 (uvals X.nl).length r9] 27) := ⟨_, rfl⟩
          rw [← hws] at hs hv
          have HS9 := Lib.hid hs
          have HV9 := Lib.hid hv
          have HWS9 := Lib.hid hws
          clear hs hv hws m1 m2
          have HK9 := Lib.hid (HK8.out.trans HS9.out)
          have HVA := Lib.hid (HVA.out.on HS9.out)
          have HVB := Lib.hid (HVB.out.on HS9.out)
          have HV4 := Lib.hid (HV4.out.on HS9.out)
          have HV8 := Lib.hid (HV8.out.on HS9.out)
          clear hva0 hva1 hva2 hva3 hva4 hva5 hvb0 hvb1 hvb2 hvb3 hvb4 hvb5
          go_upto_region 13 with fail
          rw [← HWS9.out]
          obtain ⟨hva0, hva1, hva2, hva3, hva4, hva5⟩ := HVA.out.box.c
          obtain ⟨hvb0, hvb1, hvb2, hvb3, hvb4, hvb5⟩ := HVB.out.box.c
          go_wp2_with fail
          refine (HM2.out _ HVA.out.at_ HVB.out.at_).mono ?_
          rintro e w10 ⟨pv, nv, rfl, m1, m2⟩
          obtain ⟨a10, q10, rfl⟩ := m1.slice
          obtain ⟨b10, r10, rfl⟩ := m2.slice
          unfold histV
          dsimp only
          have hs := m1.kept.alloc (.cells #[.int .i64 RM.sc, .int .u64 (RM.ze : Int), .int .i64 RM.po, .slice a10 (uvals RM.pl).length q10, .int .i64 RM.no, .slice b10 (uvals RM.nl).length r10] 27)
          have hv := HV.mk' m1 m2
          obtain ⟨ws10, hws⟩ : ∃ w', w' = w10.alloc (.cells #[.int .i64 RM.sc, .int .u64 (RM.ze : Int), .int .i64 RM.po, .slice a10 (uvals RM.pl).length q10, .int .i64 RM.no, .slice b10 (uvals RM.nl).length r10] 27) := ⟨_, rfl⟩
          rw [← hws] at hs hv
          have HS10 := Lib.hid hs
          have HV10 := Lib.hid hv
          have HWS10 := Lib.hid hws
          clear hs hv hws m1 m2
          have HK10 := Lib.hid (HK9.out.trans HS10.out)
          have HVA := Lib.hid (HVA.out.on HS10.out)
          have HVB := Lib.hid (HVB.out.on HS10.out)
          have HV4 := Lib.hid (HV4.out.on HS10.out)
          have HV8 := Lib.hid (HV8.out.on HS10.out)
          have HV9 := Lib.hid (HV9.out.on HS10.out)
          clear hva0 hva1 hva2 hva3 hva4 hva5 hvb0 hvb1 hvb2 hvb3 hvb4 hvb5
          go_upto_region 14 with fail
          rw [← HWS10.out]
          obtain ⟨hv40, hv41, hv42, hv43, hv44, hv45⟩ := HV4.out.box.c
          go_wp2_with fail
          refine (HCK.out _ _ _ HV4.out.at_).mono ?_
          rintro e w11 ⟨rfl, k11⟩
          have HS11 := Lib.hid k11
          clear k11
          have HK11 := Lib.hid (HK10.out.trans HS11.out)
          have HVA := Lib.hid (HVA.out.on HS11.out)
          have HVB := Lib.hid (HVB.out.on HS11.out)
          have HV4 := Lib.hid (HV4.out.on HS11.out)
          have HV8 := Lib.hid (HV8.out.on HS11.out)
          have HV9 := Lib.hid (HV9.out.on HS11.out)
          have HV10 := Lib.hid (HV10.out.on HS11.out)
          clear hv40 hv41 hv42 hv43 hv44 hv45
          obtain ⟨hv80, hv81, hv82, hv83, hv84, hv85⟩ := HV8.out.box.c
          obtain ⟨hv90, hv91, hv92, hv93, hv94, hv95⟩ := HV9.out.box.c
          go_wp2_with fail
          refine (HSX.out _ _ _ _ _ HV8.out.at_ HV9.out.at_).mono ?_
          rintro e w12 ⟨rfl, k12⟩
          have HS12 := Lib.hid k12
          clear k12
          have HK12 := Lib.hid (HK11.out.trans HS12.out)
          have HVA := Lib.hid (HVA.out.on HS12.out)
          have HVB := Lib.hid (HVB.out.on HS12.out)
          have HV4 := Lib.hid (HV4.out.on HS12.out)
          have HV8 := Lib.hid (HV8.out.on HS12.out)
          have HV9 := Lib.hid (HV9.out.on HS12.out)
          have HV10 := Lib.hid (HV10.out.on HS12.out)
          clear hv80 hv81 hv82 hv83 hv84 hv85 hv90 hv91 hv92 hv93 hv94 hv95
          obtain ⟨hv100, hv101, hv102, hv103, hv104, hv105⟩ := HV10.out.box.c
          obtain ⟨hv40, hv41, hv42, hv43, hv44, hv45⟩ := HV4.out.box.c
          go_wp2_with fail
          refine (HSM.out _ _ _ _ _ HV10.out.at_ HV4.out.at_).mono ?_
          rintro e w13 ⟨rfl, k13⟩
          have HS13 := Lib.hid k13
          clear k13
          have HK13 := Lib.hid (HK12.out.trans HS13.out)
          have HVA := Lib.hid (HVA.out.on HS13.out)
          have HVB := Lib.hid (HVB.out.on HS13.out)
          have HV4 := Lib.hid (HV4.out.on HS13.out)
          have HV8 := Lib.hid (HV8.out.on HS13.out)
          have HV9 := Lib.hid (HV9.out.on HS13.out)
          have HV10 := Lib.hid (HV10.out.on HS13.out)
          clear hv100 hv101 hv102 hv103 hv104 hv105 hv40 hv41 hv42 hv43 hv44 hv45
          obtain ⟨hv40, hv41, hv42, hv43, hv44, hv45⟩ := HV4.out.box.c
          obtain ⟨hva0, hva1, hva2, hva3, hva4, hva5⟩ := HVA.out.box.c
          obtain ⟨hvb0, hvb1, hvb2, hvb3, hvb4, hvb5⟩ := HVB.out.box.c
          go_wp2
          go_ret
          exact ⟨rfl, HKW.out.trans HK13.out⟩
        · have hm : min a.sc b.sc = b.sc := Int.min_eq_right (by omega)
          have hd := HD.out
          rw [hm] at hd
          have HDX := Lib.hid hd
          clear HD
          rw [hm] at msc
          have qs : (RM.sc == b.sc) = true := beqT msc
          have t1 : IntKind.i64.wrap (a.sc - b.sc) = a.sc - b.sc := IntWalk.i64_in _ ⟨by omega, by omega⟩
          clear hm hd msc
          obtain ⟨asc, aze, apo, apl, ano, anl⟩ := a
          obtain ⟨bsc, bze, bpo, bpl, bno, bnl⟩ := b
          unfold histV at HLA HLB HM1 HM2 HSB HDX HTA HTB ⊢
          simp only at HLA HLB HM1 HM2 HSB HDX HTA HTB HW0 qs hle a1' a2' b1' b2' t1 ⊢
          go_enter Try.func10, Try.ntmps10
          go_upto_region 1 with fail
          rw [← HW0.out]
          go_wp2_with fail
          refine HAW.out.mono ?_
          rintro e w1 ⟨rfl, k1⟩
          have HS1 := Lib.hid k1
          have HK1 := Lib.hid k1
          clear k1
          have HVA := Lib.hid (HVA.out.on HS1.out)
          have HVB := Lib.hid (HVB.out.on HS1.out)
          obtain ⟨hva0, hva1, hva2, hva3, hva4, hva5⟩ := HVA.out.box.c
          go_wp2_with fail
          refine (HLA.out _ HVA.out.at_).mono ?_
          rintro e w2 ⟨rfl, k2⟩
          have HS2 := Lib.hid k2
          clear k2
          have HK2 := Lib.hid (HK1.out.trans HS2.out)
          have HVA := Lib.hid (HVA.out.on HS2.out)
          have HVB := Lib.hid (HVB.out.on HS2.out)
          clear hva0 hva1 hva2 hva3 hva4 hva5
          obtain ⟨hvb0, hvb1, hvb2, hvb3, hvb4, hvb5⟩ := HVB.out.box.c
          go_wp2_with fail
          refine (HLB.out _ HVB.out.at_).mono ?_
          rintro e w3 ⟨rfl, k3⟩
          have HS3 := Lib.hid k3
          clear k3
          have HK3 := Lib.hid (HK2.out.trans HS3.out)
          have HVA := Lib.hid (HVA.out.on HS3.out)
          have HVB := Lib.hid (HVB.out.on HS3.out)
          clear hvb0 hvb1 hvb2 hvb3 hvb4 hvb5
          obtain ⟨hva0, hva1, hva2, hva3, hva4, hva5⟩ := HVA.out.box.c
          obtain ⟨hvb0, hvb1, hvb2, hvb3, hvb4, hvb5⟩ := HVB.out.box.c
          go_wp2_with fail
          refine (HM1.out _ HVA.out.at_ HVB.out.at_).mono ?_
          rintro e w4 ⟨pv, nv, rfl, m1, m2⟩
          have hc1 := fun a n c (e : pv = .slice a n c) => (by subst e; have := own_cap m1.own; have h2 := ownsRow_slice m1.own; obtain ⟨_, _, h3⟩ := h2; injection h3 with _ h4 _; omega : n ≤ c)
          have hc2 := fun a n c (e : nv = .slice a n c) => (by subst e; have := own_cap m2.own; have h2 := ownsRow_slice m2.own; obtain ⟨_, _, h3⟩ := h2; injection h3 with _ h4 _; omega : n ≤ c)
          have HC1 := Lib.hid hc1
          have HC2 := Lib.hid hc2
          clear hc1 hc2
          obtain ⟨a4, q4, rfl⟩ := m1.slice
          obtain ⟨b4, r4, rfl⟩ := m2.slice
          unfold histV
          dsimp only
          have hs := m1.kept.alloc (.cells #[.int .i64 RM.sc, .int .u64 (RM.ze : Int), .int .i64 RM.po, .slice a4 (uvals RM.pl).length q4, .int .i64 RM.no, .slice b4 (uvals RM.nl).length r4] 27)
          have hv := HV.mk' m1 m2
          obtain ⟨ws4, hws⟩ : ∃ w', w' = w4.alloc (.cells #[.int .i64 RM.sc, .int .u64 (RM.ze : Int), .int .i64 RM.po, .slice a4 (uvals RM.pl).length q4, .int .i64 RM.no, .slice b4 (uvals RM.nl).length r4] 27) := ⟨_, rfl⟩
          rw [← hws] at hs hv
          have HS4 := Lib.hid hs
          have HV4 := Lib.hid hv
          have HWS4 := Lib.hid hws
          clear hs hv hws m1 m2
          have HK4 := Lib.hid (HK3.out.trans HS4.out)
          have HVA := Lib.hid (HVA.out.on HS4.out)
          have HVB := Lib.hid (HVB.out.on HS4.out)
          clear hva0 hva1 hva2 hva3 hva4 hva5 hvb0 hvb1 hvb2 hvb3 hvb4 hvb5
          go_upto_region 6 with fail
          rw [← HWS4.out]
          obtain ⟨hva0, hva1, hva2, hva3, hva4, hva5⟩ := HVA.out.box.c
          go_wp2_with fail
          refine (HTA.out _ HVA.out.at_).mono ?_
          rintro e w5 ⟨rfl, k5⟩
          have HS5 := Lib.hid k5
          clear k5
          have HK5 := Lib.hid (HK4.out.trans HS5.out)
          have HVA := Lib.hid (HVA.out.on HS5.out)
          have HVB := Lib.hid (HVB.out.on HS5.out)
          have HV4 := Lib.hid (HV4.out.on HS5.out)
          clear hva0 hva1 hva2 hva3 hva4 hva5
          obtain ⟨hvb0, hvb1, hvb2, hvb3, hvb4, hvb5⟩ := HVB.out.box.c
          go_wp2_with fail
          refine (HTB.out _ HVB.out.at_).mono ?_
          rintro e w6 ⟨rfl, k6⟩
          have HS6 := Lib.hid k6
          clear k6
          have HK6 := Lib.hid (HK5.out.trans HS6.out)
          have HVA := Lib.hid (HVA.out.on HS6.out)
          have HVB := Lib.hid (HVB.out.on HS6.out)
          have HV4 := Lib.hid (HV4.out.on HS6.out)
          clear hvb0 hvb1 hvb2 hvb3 hvb4 hvb5
          obtain ⟨hv40, hv41, hv42, hv43, hv44, hv45⟩ := HV4.out.box.c
          go_wp2_with fail
          refine (HTM.out _ _ _ HV4.out.at_).mono ?_
          rintro e w7 ⟨rfl, k7⟩
          have HS7 := Lib.hid k7
          clear k7
          have HK7 := Lib.hid (HK6.out.trans HS7.out)
          have HVA := Lib.hid (HVA.out.on HS7.out)
          have HVB := Lib.hid (HVB.out.on HS7.out)
          have HV4 := Lib.hid (HV4.out.on HS7.out)
          clear hv40 hv41 hv42 hv43 hv44 hv45
          obtain ⟨hv40, hv41, hv42, hv43, hv44, hv45⟩ := HV4.out.box.c
          obtain ⟨hvb0, hvb1, hvb2, hvb3, hvb4, hvb5⟩ := HVB.out.box.c
          go_wp2_with fail
          refine (HSB.out _ _ _ HV4.out.at_ HC1.out HC2.out HVB.out.at_).mono ?_
          rintro e w8 ⟨R', E', hr, pv, nv, rfl, m1, m2⟩
          obtain ⟨rfl, rfl⟩ := HUS.out _ _ hr
          clear hr
          obtain ⟨a8, q8, rfl⟩ := m1.slice
          obtain ⟨b8, r8, rfl⟩ := m2.slice
          unfold histV
          dsimp only
          have hs := m1.kept.alloc (.cells #[.int .i64 X.sc, .int .u64 (X.ze : Int), .int .i64 X.po, .slice a8 (uvals X.pl).length q8, .int .i64 X.no, .slice b8 (uvals X.nl).length r8] 27)
          have hv := HV.mk' m1 m2
          obtain ⟨ws8, hws⟩ : ∃ w', w' = w8.alloc (.cells #[.int .i64 X.sc, .int .u64 (X.ze : Int), .int .i64 X.po, .slice a8 (uvals X.pl).length q8, .int .i64 X.no, .slice b8 (uvals X.nl).length r8] 27) := ⟨_, rfl⟩
          rw [← hws] at hs hv
          have HS8 := Lib.hid hs
          have HV8 := Lib.hid hv
          have HWS8 := Lib.hid hws
          clear hs hv hws m1 m2
          have HK8 := Lib.hid (HK7.out.trans HS8.out)
          have HVA := Lib.hid (HVA.out.on HS8.out)
          have HVB := Lib.hid (HVB.out.on HS8.out)
          have HV4 := Lib.hid (HV4.out.on HS8.out)
          clear hv40 hv41 hv42 hv43 hv44 hv45 hvb0 hvb1 hvb2 hvb3 hvb4 hvb5
          go_upto_region 12 with fail
          rw [← HWS8.out]
          obtain ⟨hva0, hva1, hva2, hva3, hva4, hva5⟩ := HVA.out.box.c
          obtain ⟨hvb0, hvb1, hvb2, hvb3, hvb4, hvb5⟩ := HVB.out.box.c
          go_wp2_with fail
          refine (HDX.out _ HVA.out.at_).mono ?_
          rintro e w9 ⟨pv, nv, rfl, m1, m2, _⟩
          obtain ⟨a9, q9, rfl⟩ := m1.slice
          obtain ⟨b9, r9, rfl⟩ := m2.slice
          unfold histV
          dsimp only
          have hs := m1.kept.alloc (.cells #[.int .i64 X.sc, .int .u64 (X.ze : Int), .int .i64 X.po, .slice a9 (uvals X.pl).length q9, .int .i64 X.no, .slice b9 (uvals X.nl).length r9] 27)
          have hv := HV.mk' m1 m2
          obtain ⟨ws9, hws⟩ : ∃ w', w' = w9.alloc (.cells #[.int .i64 X.sc, .int .u64 (X.ze : Int), .int .i64 X.po, .slice a9 (uvals X.pl).length q9, .int .i64 X.no, .slice b9 (uvals X.nl).length r9] 27) := ⟨_, rfl⟩
          rw [← hws] at hs hv
          have HS9 := Lib.hid hs
          have HV9 := Lib.hid hv
          have HWS9 := Lib.hid hws
          clear hs hv hws m1 m2
          have HK9 := Lib.hid (HK8.out.trans HS9.out)
          have HVA := Lib.hid (HVA.out.on HS9.out)
          have HVB := Lib.hid (HVB.out.on HS9.out)
          have HV4 := Lib.hid (HV4.out.on HS9.out)
          have HV8 := Lib.hid (HV8.out.on HS9.out)
          clear hva0 hva1 hva2 hva3 hva4 hva5 hvb0 hvb1 hvb2 hvb3 hvb4 hvb5
          go_upto_region 13 with fail
          rw [← HWS9.out]
          obtain ⟨hva0, hva1, hva2, hva3, hva4, hva5⟩ := HVA.out.box.c
          obtain ⟨hvb0, hvb1, hvb2, hvb3, hvb4, hvb5⟩ := HVB.out.box.c
          go_wp2_with fail
          refine (HM2.out _ HVA.out.at_ HVB.out.at_).mono ?_
          rintro e w10 ⟨pv, nv, rfl, m1, m2⟩
          obtain ⟨a10, q10, rfl⟩ := m1.slice
          obtain ⟨b10, r10, rfl⟩ := m2.slice
          unfold histV
          dsimp only
          have hs := m1.kept.alloc (.cells #[.int .i64 RM.sc, .int .u64 (RM.ze : Int), .int .i64 RM.po, .slice a10 (uvals RM.pl).length q10, .int .i64 RM.no, .slice b10 (uvals RM.nl).length r10] 27)
          have hv := HV.mk' m1 m2
          obtain ⟨ws10, hws⟩ : ∃ w', w' = w10.alloc (.cells #[.int .i64 RM.sc, .int .u64 (RM.ze : Int), .int .i64 RM.po, .slice a10 (uvals RM.pl).length q10, .int .i64 RM.no, .slice b10 (uvals RM.nl).length r10] 27) := ⟨_, rfl⟩
          rw [← hws] at hs hv
          have HS10 := Lib.hid hs
          have HV10 := Lib.hid hv
          have HWS10 := Lib.hid hws
          clear hs hv hws m1 m2
          have HK10 := Lib.hid (HK9.out.trans HS10.out)
          have HVA := Lib.hid (HVA.out.on HS10.out)
          have HVB := Lib.hid (HVB.out.on HS10.out)
          have HV4 := Lib.hid (HV4.out.on HS10.out)
          have HV8 := Lib.hid (HV8.out.on HS10.out)
          have HV9 := Lib.hid (HV9.out.on HS10.out)
          clear hva0 hva1 hva2 hva3 hva4 hva5 hvb0 hvb1 hvb2 hvb3 hvb4 hvb5
          go_upto_region 14 with fail
          rw [← HWS10.out]
          obtain ⟨hv40, hv41, hv42, hv43, hv44, hv45⟩ := HV4.out.box.c
          go_wp2_with fail
          refine (HCK.out _ _ _ HV4.out.at_).mono ?_
          rintro e w11 ⟨rfl, k11⟩
          have HS11 := Lib.hid k11
          clear k11
          have HK11 := Lib.hid (HK10.out.trans HS11.out)
          have HVA := Lib.hid (HVA.out.on HS11.out)
          have HVB := Lib.hid (HVB.out.on HS11.out)
          have HV4 := Lib.hid (HV4.out.on HS11.out)
          have HV8 := Lib.hid (HV8.out.on HS11.out)
          have HV9 := Lib.hid (HV9.out.on HS11.out)
          have HV10 := Lib.hid (HV10.out.on HS11.out)
          clear hv40 hv41 hv42 hv43 hv44 hv45
          obtain ⟨hv80, hv81, hv82, hv83, hv84, hv85⟩ := HV8.out.box.c
          obtain ⟨hv90, hv91, hv92, hv93, hv94, hv95⟩ := HV9.out.box.c
          go_wp2_with fail
          refine (HSX.out _ _ _ _ _ HV8.out.at_ HV9.out.at_).mono ?_
          rintro e w12 ⟨rfl, k12⟩
          have HS12 := Lib.hid k12
          clear k12
          have HK12 := Lib.hid (HK11.out.trans HS12.out)
          have HVA := Lib.hid (HVA.out.on HS12.out)
          have HVB := Lib.hid (HVB.out.on HS12.out)
          have HV4 := Lib.hid (HV4.out.on HS12.out)
          have HV8 := Lib.hid (HV8.out.on HS12.out)
          have HV9 := Lib.hid (HV9.out.on HS12.out)
          have HV10 := Lib.hid (HV10.out.on HS12.out)
          clear hv80 hv81 hv82 hv83 hv84 hv85 hv90 hv91 hv92 hv93 hv94 hv95
          obtain ⟨hv100, hv101, hv102, hv103, hv104, hv105⟩ := HV10.out.box.c
          obtain ⟨hv40, hv41, hv42, hv43, hv44, hv45⟩ := HV4.out.box.c
          go_wp2_with fail
          refine (HSM.out _ _ _ _ _ HV10.out.at_ HV4.out.at_).mono ?_
          rintro e w13 ⟨rfl, k13⟩
          have HS13 := Lib.hid k13
          clear k13
          have HK13 := Lib.hid (HK12.out.trans HS13.out)
          have HVA := Lib.hid (HVA.out.on HS13.out)
          have HVB := Lib.hid (HVB.out.on HS13.out)
          have HV4 := Lib.hid (HV4.out.on HS13.out)
          have HV8 := Lib.hid (HV8.out.on HS13.out)
          have HV9 := Lib.hid (HV9.out.on HS13.out)
          have HV10 := Lib.hid (HV10.out.on HS13.out)
          clear hv100 hv101 hv102 hv103 hv104 hv105 hv40 hv41 hv42 hv43 hv44 hv45
          obtain ⟨hv40, hv41, hv42, hv43, hv44, hv45⟩ := HV4.out.box.c
          obtain ⟨hva0, hva1, hva2, hva3, hva4, hva5⟩ := HVA.out.box.c
          obtain ⟨hvb0, hvb1, hvb2, hvb3, hvb4, hvb5⟩ := HVB.out.box.c
          go_wp2
          go_ret
          exact ⟨rfl, HKW.out.trans HK13.out⟩
      · obtain ⟨EM, hEM⟩ : ∃ E, E = mgE a b := ⟨_, rfl⟩
        have hz : mgH a b = zeroH := by unfold mgH; rw [if_neg hE]
        rw [← hEM] at HM1 hE
        obtain ⟨RM, hRM⟩ : ∃ R, R = mgH a b := ⟨_, rfl⟩
        rw [← hRM] at HM1 hz lm
        have HSM := Lib.hid fun w' p1 n1 (k1 : HistAt w' RM p1 n1) => refSame_any RM zeroH p1 n1 (.slice none 0 0) (.slice none 0 0) w' k1 (nil_at w') (by omega) (by omega)
        rw [decide_eq_true ((sameH_iff RM zeroH).mpr hz)] at HSM
        unfold zeroH histV at HSM
        simp only at HSM
        have qe : ((EM : Int) != 0) = true := bneT (by omega)
        clear hEM hz hE hRM lm ha hb hla hlb k0 hw0
        obtain ⟨asc, aze, apo, apl, ano, anl⟩ := a
        obtain ⟨bsc, bze, bpo, bpl, bno, bnl⟩ := b
        unfold histV at HLA HLB HM1 ⊢
        simp only at HLA HLB HM1 HW0 ⊢
        go_enter Try.func10, Try.ntmps10
        go_upto_region 1 with fail
        rw [← HW0.out]
        go_wp2_with fail
        refine HAW.out.mono ?_
        rintro e w1 ⟨rfl, k1⟩
        have HS1 := Lib.hid k1
        have HK1 := Lib.hid k1
        clear k1
        have HVA := Lib.hid (HVA.out.on HS1.out)
        have HVB := Lib.hid (HVB.out.on HS1.out)
        obtain ⟨hva0, hva1, hva2, hva3, hva4, hva5⟩ := HVA.out.box.c
        go_wp2_with fail
        refine (HLA.out _ HVA.out.at_).mono ?_
        rintro e w2 ⟨rfl, k2⟩
        have HS2 := Lib.hid k2
        clear k2
        have HK2 := Lib.hid (HK1.out.trans HS2.out)
        have HVA := Lib.hid (HVA.out.on HS2.out)
        have HVB := Lib.hid (HVB.out.on HS2.out)
        clear hva0 hva1 hva2 hva3 hva4 hva5
        obtain ⟨hvb0, hvb1, hvb2, hvb3, hvb4, hvb5⟩ := HVB.out.box.c
        go_wp2_with fail
        refine (HLB.out _ HVB.out.at_).mono ?_
        rintro e w3 ⟨rfl, k3⟩
        have HS3 := Lib.hid k3
        clear k3
        have HK3 := Lib.hid (HK2.out.trans HS3.out)
        have HVA := Lib.hid (HVA.out.on HS3.out)
        have HVB := Lib.hid (HVB.out.on HS3.out)
        clear hvb0 hvb1 hvb2 hvb3 hvb4 hvb5
        obtain ⟨hva0, hva1, hva2, hva3, hva4, hva5⟩ := HVA.out.box.c
        obtain ⟨hvb0, hvb1, hvb2, hvb3, hvb4, hvb5⟩ := HVB.out.box.c
        go_wp2_with fail
        refine (HM1.out _ HVA.out.at_ HVB.out.at_).mono ?_
        rintro e w4 ⟨pv, nv, rfl, m1, m2⟩
        obtain ⟨a4, q4, rfl⟩ := m1.slice
        obtain ⟨b4, r4, rfl⟩ := m2.slice
        unfold histV
        dsimp only
        have hs := m1.kept.alloc (.cells #[.int .i64 RM.sc, .int .u64 (RM.ze : Int), .int .i64 RM.po, .slice a4 (uvals RM.pl).length q4, .int .i64 RM.no, .slice b4 (uvals RM.nl).length r4] 27)
        have hv := HV.mk' m1 m2
        obtain ⟨ws4, hws⟩ : ∃ w', w' = w4.alloc (.cells #[.int .i64 RM.sc, .int .u64 (RM.ze : Int), .int .i64 RM.po, .slice a4 (uvals RM.pl).length q4, .int .i64 RM.no, .slice b4 (uvals RM.nl).length r4] 27) := ⟨_, rfl⟩
        rw [← hws] at hs hv
        have HS4 := Lib.hid hs
        have HV4 := Lib.hid hv
        have HWS4 := Lib.hid hws
        clear hs hv hws m1 m2
        have HK4 := Lib.hid (HK3.out.trans HS4.out)
        have HVA := Lib.hid (HVA.out.on HS4.out)
        have HVB := Lib.hid (HVB.out.on HS4.out)
        clear hva0 hva1 hva2 hva3 hva4 hva5 hvb0 hvb1 hvb2 hvb3 hvb4 hvb5
        go_upto_region 6 with fail
        rw [← HWS4.out]
        obtain ⟨hv40, hv41, hv42, hv43, hv44, hv45⟩ := HV4.out.box.c
        go_wp2_with fail
        refine (HSM.out _ _ _ HV4.out.at_).mono ?_
        rintro e w5 ⟨rfl, k5⟩
        have HS5 := Lib.hid k5
        clear k5
        have HK5 := Lib.hid (HK4.out.trans HS5.out)
        have HVA := Lib.hid (HVA.out.on HS5.out)
        have HVB := Lib.hid (HVB.out.on HS5.out)
        have HV4 := Lib.hid (HV4.out.on HS5.out)
        clear hv40 hv41 hv42 hv43 hv44 hv45
        go_wp2
        go_ret
        exact ⟨rfl, HKW.out.trans HK5.out⟩
    · rw [decide_eq_true hla] at HLA
      rw [decide_eq_false hlb] at HLB
      clear ha hb hla hlb k0 hw0
      obtain ⟨asc, aze, apo, apl, ano, anl⟩ := a
      obtain ⟨bsc, bze, bpo, bpl, bno, bnl⟩ := b
      unfold histV at HLA HLB ⊢
      simp only at HLA HLB HW0 ⊢
      go_enter Try.func10, Try.ntmps10
      go_upto_region 1 with fail
      rw [← HW0.out]
      go_wp2_with fail
      refine HAW.out.mono ?_
      rintro e w1 ⟨rfl, k1⟩
      have HS1 := Lib.hid k1
      have HK1 := Lib.hid k1
      clear k1
      have HVA := Lib.hid (HVA.out.on HS1.out)
      have HVB := Lib.hid (HVB.out.on HS1.out)
      obtain ⟨hva0, hva1, hva2, hva3, hva4, hva5⟩ := HVA.out.box.c
      go_wp2_with fail
      refine (HLA.out _ HVA.out.at_).mono ?_
      rintro e w2 ⟨rfl, k2⟩
      have HS2 := Lib.hid k2
      clear k2
      have HK2 := Lib.hid (HK1.out.trans HS2.out)
      have HVA := Lib.hid (HVA.out.on HS2.out)
      have HVB := Lib.hid (HVB.out.on HS2.out)
      clear hva0 hva1 hva2 hva3 hva4 hva5
      obtain ⟨hvb0, hvb1, hvb2, hvb3, hvb4, hvb5⟩ := HVB.out.box.c
      go_wp2_with fail
      refine (HLB.out _ HVB.out.at_).mono ?_
      rintro e w3 ⟨rfl, k3⟩
      have HS3 := Lib.hid k3
      clear k3
      have HK3 := Lib.hid (HK2.out.trans HS3.out)
      have HVA := Lib.hid (HVA.out.on HS3.out)
      have HVB := Lib.hid (HVB.out.on HS3.out)
      clear hvb0 hvb1 hvb2 hvb3 hvb4 hvb5
      go_wp2
      go_ret
      exact ⟨rfl, HKW.out.trans HK3.out⟩
  · rw [decide_eq_false hla] at HLA
    clear ha hb hla k0 hw0
    obtain ⟨asc, aze, apo, apl, ano, anl⟩ := a
    obtain ⟨bsc, bze, bpo, bpl, bno, bnl⟩ := b
    unfold histV at HLA HLB ⊢
    simp only at HLA HLB HW0 ⊢
    go_enter Try.func10, Try.ntmps10
    go_upto_region 1 with fail
    rw [← HW0.out]
    go_wp2_with fail
    refine HAW.out.mono ?_
    rintro e w1 ⟨rfl, k1⟩
    have HS1 := Lib.hid k1
    have HK1 := Lib.hid k1
    clear k1
    have HVA := Lib.hid (HVA.out.on HS1.out)
    have HVB := Lib.hid (HVB.out.on HS1.out)
    obtain ⟨hva0, hva1, hva2, hva3, hva4, hva5⟩ := HVA.out.box.c
    go_wp2_with fail
    refine (HLA.out _ HVA.out.at_).mono ?_
    rintro e w2 ⟨rfl, k2⟩
    have HS2 := Lib.hid k2
    clear k2
    have HK2 := Lib.hid (HK1.out.trans HS2.out)
    have HVA := Lib.hid (HVA.out.on HS2.out)
    have HVB := Lib.hid (HVB.out.on HS2.out)
    clear hva0 hva1 hva2 hva3 hva4 hva5
    go_wp2
    go_ret
    exact ⟨rfl, HKW.out.trans HK2.out⟩
end Go.Proofs.Ytbjpcddnjndjlaa
