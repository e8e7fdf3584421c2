/- Layer 9: the walk of FoldKeeps. -/
import Derived.Test.YtbjpcddnjndjlaaE24
import Derived.Deep.Cut
namespace Go.Proofs.Ytbjpcddnjndjlaa
open Go.RowKit
attribute [local go_sem ↓] Go.wp_at_zero Go.wp_at_succ

theorem levXY_len {a b : HistV} (h1 : a.pl.length ≤ 300) (h2 : a.nl.length ≤ 300) (h3 : b.pl.length ≤ 300) (h4 : b.nl.length ≤ 300) : (levX a b).pl.length ≤ 300 ∧ (levX a b).nl.length ≤ 300 ∧ (levY a b).pl.length ≤ 300 ∧ (levY a b).nl.length ≤ 300 := by
  unfold levX levY
  split
  · have x := downH_len a (a.sc - levS a b).toNat
    have y := downH_len b (b.sc - levS a b).toNat
    exact ⟨by omega, by omega, by omega, by omega⟩
  · unfold zeroH; simp

set_option maxHeartbeats 4000000 in
set_option maxRecDepth 100000 in
theorem foldKeeps_walk (a : HistV) (ap an : Value) (b : HistV) (bp bn : Value) (W : World) (ha : HistIn W a ap an) (hb : HistIn W b bp bn) :
    Calls Try.prog 11 #[histV a ap an, histV b bp bn] W fun e w' => e = .returned (.bool true) ∧ Kept (fun _ => False) W w' := by
  obtain ⟨⟨ao, c, rfl⟩, a1, c1, rfl⟩ := ha.at_.sl
  obtain ⟨⟨bo, d, rfl⟩, b1, d1, rfl⟩ := hb.at_.sl
  obtain ⟨w0, hw0⟩ : ∃ w0, w0 = (W.alloc (.cells #[.int .i64 a.sc, .int .u64 (a.ze : Int), .int .i64 a.po, .slice ao a.pl.length c, .int .i64 a.no, .slice a1 a.nl.length c1] 27)).alloc (.cells #[.int .i64 b.sc, .int .u64 (b.ze : Int), .int .i64 b.po, .slice bo b.pl.length d, .int .i64 b.no, .slice b1 b.nl.length d1] 27) := ⟨_, rfl⟩
  have k0 : Kept (fun _ => False) W w0 := by rw [hw0]; exact ((Kept.refl _ _).alloc _).alloc _
  have HVA : Hid (HV w0 W.heap.size a (.slice ao a.pl.length c) (.slice a1 a.nl.length c1)) := Lib.hid ⟨by rw [hw0]; exact (hist_boxed W a _ _).same ((Kept.refl (fun _ => False) _).alloc _) (fun x => x), ha.at_.on k0⟩
  have HVB : Hid (HV w0 (W.heap.size + 1) b (.slice bo b.pl.length d) (.slice b1 b.nl.length d1)) := Lib.hid ⟨by
    rw [hw0]
    have := hist_boxed (W.alloc (.cells #[.int .i64 a.sc, .int .u64 (a.ze : Int), .int .i64 a.po, .slice ao a.pl.length c, .int .i64 a.no, .slice a1 a.nl.length c1] 27)) b (.slice bo b.pl.length d) (.slice b1 b.nl.length d1)
    rwa [show (W.alloc (.cells #[.int .i64 a.sc, .int .u64 (a.ze : Int), .int .i64 a.po, .slice ao a.pl.length c, .int .i64 a.no, .slice a1 a.nl.length c1] 27)).heap.size = W.heap.size + 1 by simp] at this, hb.at_.on k0⟩
  have HKW := Lib.hid k0
  have HW0 := Lib.hid hw0
  have HAW := Lib.hid (awake9 w0)
  have HLA := Lib.hid fun w' (k : HistAt w' a (.slice ao a.pl.length c) (.slice a1 a.nl.length c1)) => refLight_any a _ _ w' k
  have HLB := Lib.hid fun w' (k : HistAt w' b (.slice bo b.pl.length d) (.slice b1 b.nl.length d1)) => refLight_any b _ _ w' k
  have HIA := Lib.hid fun w' (k : HistAt w' a (.slice ao a.pl.length c) (.slice a1 a.nl.length c1)) => (HistIn.mk k ha.ok ha.cp ha.cn)
  have HIB := Lib.hid fun w' (k : HistAt w' b (.slice bo b.pl.length d) (.slice b1 b.nl.length d1)) => (HistIn.mk k hb.ok hb.cp hb.cn)
  by_cases hla : a.pl.length ≤ 300 ∧ a.nl.length ≤ 300
  · by_cases hlb : b.pl.length ≤ 300 ∧ b.nl.length ≤ 300
    · rw [decide_eq_true hla] at HLA
      rw [decide_eq_true hlb] at HLB
      have HM1 := Lib.hid fun w' (k : HistAt w' a (.slice ao a.pl.length c) (.slice a1 a.nl.length c1)) (k2 : HistAt w' b (.slice bo b.pl.length d) (.slice b1 b.nl.length d1)) => foldLevel_any a b _ _ _ _ w' k k2 ha.ok hb.ok (by omega) (by omega) (by omega) (by omega)
      have HM2 := Lib.hid fun w' (k : HistAt w' a (.slice ao a.pl.length c) (.slice a1 a.nl.length c1)) (k2 : HistAt w' b (.slice bo b.pl.length d) (.slice b1 b.nl.length d1)) => foldMerge_any a b _ _ _ _ w' (HIA.out w' k) (HIB.out w' k2) (by omega) (by omega) (by omega) (by omega)
      have HU1 := Lib.hid fun w' (k : HistAt w' a (.slice ao a.pl.length c) (.slice a1 a.nl.length c1)) (k2 : HistAt w' b (.slice bo b.pl.length d) (.slice b1 b.nl.length d1)) => foldSub_any a b _ _ _ _ w' (HIA.out w' k) (HIB.out w' k2) (by omega) (by omega) (by omega) (by omega)
      have HSUM := Lib.hid fun w' g o (k : HistAt w' a (.slice ao a.pl.length c) (.slice a1 a.nl.length c1)) (hc : HistCells w' g o a (.slice ao a.pl.length c) (.slice a1 a.nl.length c1)) => hsum1_any a _ _ g o w' (HIA.out w' k) hc (by omega) (by omega)
      have HCA := Lib.hid fun w' (k : HistAt w' a (.slice ao a.pl.length c) (.slice a1 a.nl.length c1)) => hclone_any a _ _ w' k (by omega) (by omega)
      have HCB := Lib.hid fun w' (k2 : HistAt w' b (.slice bo b.pl.length d) (.slice b1 b.nl.length d1)) => hclone_any b _ _ w' k2 (by omega) (by omega)
      have HSA := Lib.hid fun w' p1 n1 p2 n2 (k1 : HistAt w' a p1 n1) (k2 : HistAt w' a p2 n2) => refSame_any a a p1 n1 p2 n2 w' k1 k2 (by omega) (by omega)
      have HSB := Lib.hid fun w' p1 n1 p2 n2 (k1 : HistAt w' b p1 n1) (k2 : HistAt w' b p2 n2) => refSame_any b b p1 n1 p2 n2 w' k1 k2 (by omega) (by omega)
      rw [decide_eq_true ((sameH_iff a a).mpr rfl)] at HSA
      rw [decide_eq_true ((sameH_iff b b).mpr rfl)] at HSB
      have lm := mgH_len (a := a) (b := b) ha.ok hb.ok
      have HLM := Lib.hid lm
      have HLS := Lib.hid fun R E (h : SubH a b R E) => subH_len h ha.ok hb.ok
      have HLX := Lib.hid (levXY_len (a := a) (b := b) (by omega) (by omega) (by omega) (by omega))
      obtain ⟨RM, hRM⟩ : ∃ R, R = mgH a b := ⟨_, rfl⟩
      obtain ⟨EM, hEM⟩ : ∃ E, E = mgE a b := ⟨_, rfl⟩
      rw [← hRM, ← hEM] at HM2
      rw [← hRM] at HLM
      obtain ⟨XL, hXL⟩ : ∃ R, R = levX a b := ⟨_, rfl⟩
      obtain ⟨YL, hYL⟩ : ∃ R, R = levY a b := ⟨_, rfl⟩
      obtain ⟨EL, hEL⟩ : ∃ E, E = levE a b := ⟨_, rfl⟩
      rw [← hXL, ← hYL, ← hEL] at HM1
      rw [← hXL, ← hYL] at HLX
      obtain ⟨PS, hPS⟩ : ∃ P : HistV → Nat → Prop, P = SubH a b := ⟨_, rfl⟩
      rw [← hPS] at HU1 HLS
      clear hPS hRM hEM hXL hYL hEL lm ha hb hla hlb k0 hw0
      obtain ⟨asc, aze, apo, apl, ano, anl⟩ := a
      obtain ⟨bsc, bze, bpo, bpl, bno, bnl⟩ := b
      unfold histV at HLA HLB HM1 HM2 HU1 HCA HCB HSA HSB ⊢
      simp only at HLA HLB HM1 HM2 HU1 HCA HCB HSA HSB HW0 ⊢
      go_enter Try.func11, Try.ntmps11
      go_upto_region 1 with fail
      rw [← HW0.out]
      go_wp2_with fail
      refine HAW.out.mono ?_
      rintro e w1 ⟨rfl, k1⟩
      have HS1 := Lib.hid k1
      have HK1 := Lib.hid k1
      clear k1
      have HVA := Lib.hid (HVA.out.on HS1.out)
      have HVB := Lib.hid (HVB.out.on HS1.out)
      obtain ⟨hva0, hva1, hva2, hva3, hva4, hva5⟩ := HVA.out.box.c
      go_wp2_with fail
      refine (HLA.out _ HVA.out.at_).mono ?_
      rintro e w2 ⟨rfl, k2⟩
      have HS2 := Lib.hid k2
      clear k2
      have HK2 := Lib.hid (HK1.out.trans HS2.out)
      have HVA := Lib.hid (HVA.out.on HS2.out)
      have HVB := Lib.hid (HVB.out.on HS2.out)
      clear hva0 hva1 hva2 hva3 hva4 hva5
      obtain ⟨hvb0, hvb1, hvb2, hvb3, hvb4, hvb5⟩ := HVB.out.box.c
      go_wp2_with fail
      refine (HLB.out _ HVB.out.at_).mono ?_
      rintro e w3 ⟨rfl, k3⟩
      have HS3 := Lib.hid k3
      clear k3
      have HK3 := Lib.hid (HK2.out.trans HS3.out)
      have HVA := Lib.hid (HVA.out.on HS3.out)
      have HVB := Lib.hid (HVB.out.on HS3.out)
      clear hvb0 hvb1 hvb2 hvb3 hvb4 hvb5
      go_upto_region 5 with fail
      go_cut [5, 6] from 20 (fun s5 s6 wx => ∃ (q5 q6 : Nat) (p5 n5 p6 n6 : Value), s5 = .pointer (some ⟨q5, 0, none⟩) ∧ s6 = .pointer (some ⟨q6, 0, none⟩) ∧ HV wx q5 ⟨asc, aze, apo, apl, ano, anl⟩ p5 n5 ∧ HV wx q6 ⟨bsc, bze, bpo, bpl, bno, bnl⟩ p6 n6 ∧ Kept (fun _ => False) w3 wx)
      case first =>
        refine AnyBut.start (S := fun w' => (w'.cell? ⟨W.heap.size, 0, none⟩ = some (.int .i64 asc) ∧ w'.cell? ⟨W.heap.size, 1, none⟩ = some (.int .u64 (aze : Int)) ∧ w'.cell? ⟨W.heap.size, 2, none⟩ = some (.int .i64 apo) ∧ w'.cell? ⟨W.heap.size, 3, none⟩ = some (.slice ao apl.length c) ∧ w'.cell? ⟨W.heap.size, 4, none⟩ = some (.int .i64 ano) ∧ w'.cell? ⟨W.heap.size, 5, none⟩ = some (.slice a1 anl.length c1)) ∧ (w'.cell? ⟨(W.heap.size + 1), 0, none⟩ = some (.int .i64 bsc) ∧ w'.cell? ⟨(W.heap.size + 1), 1, none⟩ = some (.int .u64 (bze : Int)) ∧ w'.cell? ⟨(W.heap.size + 1), 2, none⟩ = some (.int .i64 bpo) ∧ w'.cell? ⟨(W.heap.size + 1), 3, none⟩ = some (.slice bo bpl.length d) ∧ w'.cell? ⟨(W.heap.size + 1), 4, none⟩ = some (.int .i64 bno) ∧ w'.cell? ⟨(W.heap.size + 1), 5, none⟩ = some (.slice b1 bnl.length d1))) (k := 8) (by kernel_rfl) ?_
        obtain ⟨wx, hwd⟩ : ∃ w', w' = w3.drew := ⟨_, rfl⟩
        have KDx := Lib.hid (Kept.refl (fun _ => False) w3).drew
        rw [← hwd] at KDx ⊢
        have HSSx : Hid ((fun w' => (w'.cell? ⟨W.heap.size, 0, none⟩ = some (.int .i64 asc) ∧ w'.cell? ⟨W.heap.size, 1, none⟩ = some (.int .u64 (aze : Int)) ∧ w'.cell? ⟨W.heap.size, 2, none⟩ = some (.int .i64 apo) ∧ w'.cell? ⟨W.heap.size, 3, none⟩ = some (.slice ao apl.length c) ∧ w'.cell? ⟨W.heap.size, 4, none⟩ = some (.int .i64 ano) ∧ w'.cell? ⟨W.heap.size, 5, none⟩ = some (.slice a1 anl.length c1)) ∧ (w'.cell? ⟨(W.heap.size + 1), 0, none⟩ = some (.int .i64 bsc) ∧ w'.cell? ⟨(W.heap.size + 1), 1, none⟩ = some (.int .u64 (bze : Int)) ∧ w'.cell? ⟨(W.heap.size + 1), 2, none⟩ = some (.int .i64 bpo) ∧ w'.cell? ⟨(W.heap.size + 1), 3, none⟩ = some (.slice bo bpl.length d) ∧ w'.cell? ⟨(W.heap.size + 1), 4, none⟩ = some (.int .i64 bno) ∧ w'.cell? ⟨(W.heap.size + 1), 5, none⟩ = some (.slice b1 bnl.length d1))) wx) := Lib.hid ⟨(HVA.out.on KDx.out).box.c, (HVB.out.on KDx.out).box.c⟩
        clear hwd
        refine AnyBut.takeS (i := 0) (v := ?v1) rfl (by kernel_rfl) (Nat.le_of_eq (by kernel_rfl)) (by kernel_rfl) (by kernel_rfl) (fun _ _ _ h => h) (HSSx.out) (Or.inl ⟨by kernel_rfl, ?hy1⟩) ?r1
        case hy1 =>
          intro w hSw
          try dsimp only at hSw
          go_simp
          try with_reducible rfl
        try simp only [Act.put, List.getElem_toArray, List.getElem_cons_zero, List.setIfInBounds_toArray, List.set_cons_zero, List.set_cons_succ]
        refine AnyBut.takeS (i := 2) (v := ?v2) rfl (by kernel_rfl) (Nat.le_of_eq (by kernel_rfl)) (by kernel_rfl) (by kernel_rfl) (fun _ _ _ h => h) (HSSx.out) (Or.inl ⟨by kernel_rfl, ?hy2⟩) ?r2
        case hy2 =>
          intro w hSw
          try dsimp only at hSw
          go_simp
          try with_reducible rfl
        try simp only [Act.put, List.getElem_toArray, List.getElem_cons_succ, List.getElem_cons_zero, List.setIfInBounds_toArray, List.set_cons_zero, List.set_cons_succ]
        refine AnyBut.three (i := 1) (j := 4) (m := 5) (by kernel_rfl) rfl rfl rfl (fun K hK => ?_) (fun K hK => ?_) (fun K hK => ?_)
        · go_simp
          go_wp2_with fail
          refine (HCA.out _ (HVA.out.on KDx.out).at_).mono ?_
          rintro e wx1 ⟨pv, nv, rfl, m1, m2⟩
          obtain ⟨pa1, pc1, rfl⟩ := m1.slice
          obtain ⟨na1, nc1, rfl⟩ := m2.slice
          have KDx1 := Lib.hid (KDx.out.trans m1.kept)
          have P1x1 := Lib.hid (m1.down KDx.out)
          have Q1x1 := Lib.hid (m2.down KDx.out)
          clear m1 m2
          have HSSx1 : Hid ((fun w' => (w'.cell? ⟨W.heap.size, 0, none⟩ = some (.int .i64 asc) ∧ w'.cell? ⟨W.heap.size, 1, none⟩ = some (.int .u64 (aze : Int)) ∧ w'.cell? ⟨W.heap.size, 2, none⟩ = some (.int .i64 apo) ∧ w'.cell? ⟨W.heap.size, 3, none⟩ = some (.slice ao apl.length c) ∧ w'.cell? ⟨W.heap.size, 4, none⟩ = some (.int .i64 ano) ∧ w'.cell? ⟨W.heap.size, 5, none⟩ = some (.slice a1 anl.length c1)) ∧ (w'.cell? ⟨(W.heap.size + 1), 0, none⟩ = some (.int .i64 bsc) ∧ w'.cell? ⟨(W.heap.size + 1), 1, none⟩ = some (.int .u64 (bze : Int)) ∧ w'.cell? ⟨(W.heap.size + 1), 2, none⟩ = some (.int .i64 bpo) ∧ w'.cell? ⟨(W.heap.size + 1), 3, none⟩ = some (.slice bo bpl.length d) ∧ w'.cell? ⟨(W.heap.size + 1), 4, none⟩ = some (.int .i64 bno) ∧ w'.cell? ⟨(W.heap.size + 1), 5, none⟩ = some (.slice b1 bnl.length d1))) wx1) := Lib.hid ⟨(HVA.out.on KDx1.out).box.c, (HVB.out.on KDx1.out).box.c⟩
          go_wp2
          refine hK.out _ _ (HSSx1.out) ?_
          clear hK K
          try simp only [Act.put, List.getElem_toArray, List.getElem_cons_succ, List.getElem_cons_zero, List.setIfInBounds_toArray, List.set_cons_zero, List.set_cons_succ]
          refine AnyBut.three (i := 3) (j := 4) (m := 5) (by kernel_rfl) rfl rfl rfl (fun K hK => ?_) (fun K hK => ?_) (fun K hK => ?_)
          · go_simp
            go_wp2_with fail
            refine (HCB.out _ (HVB.out.on KDx1.out).at_).mono ?_
            rintro e wx13 ⟨pv, nv, rfl, m1, m2⟩
            obtain ⟨pa3, pc3, rfl⟩ := m1.slice
            obtain ⟨na3, nc3, rfl⟩ := m2.slice
            have KDx13 := Lib.hid (KDx1.out.trans m1.kept)
            have P3x13 := Lib.hid (m1.down KDx1.out)
            have Q3x13 := Lib.hid (m2.down KDx1.out)
            have P1x13 := Lib.hid (P1x1.out.on m1.kept)
            have Q1x13 := Lib.hid (Q1x1.out.on m1.kept)
            clear m1 m2
            have HSSx13 : Hid ((fun w' => (w'.cell? ⟨W.heap.size, 0, none⟩ = some (.int .i64 asc) ∧ w'.cell? ⟨W.heap.size, 1, none⟩ = some (.int .u64 (aze : Int)) ∧ w'.cell? ⟨W.heap.size, 2, none⟩ = some (.int .i64 apo) ∧ w'.cell? ⟨W.heap.size, 3, none⟩ = some (.slice ao apl.length c) ∧ w'.cell? ⟨W.heap.size, 4, none⟩ = some (.int .i64 ano) ∧ w'.cell? ⟨W.heap.size, 5, none⟩ = some (.slice a1 anl.length c1)) ∧ (w'.cell? ⟨(W.heap.size + 1), 0, none⟩ = some (.int .i64 bsc) ∧ w'.cell? ⟨(W.heap.size + 1), 1, none⟩ = some (.int .u64 (bze : Int)) ∧ w'.cell? ⟨(W.heap.size + 1), 2, none⟩ = some (.int .i64 bpo) ∧ w'.cell? ⟨(W.heap.size + 1), 3, none⟩ = some (.slice bo bpl.length d) ∧ w'.cell? ⟨(W.heap.size + 1), 4, none⟩ = some (.int .i64 bno) ∧ w'.cell? ⟨(W.heap.size + 1), 5, none⟩ = some (.slice b1 bnl.length d1))) wx13) := Lib.hid ⟨(HVA.out.on KDx13.out).box.c, (HVB.out.on KDx13.out).box.c⟩
            go_wp2
            refine hK.out _ _ (HSSx13.out) ?_
            clear hK K
            try simp only [Act.put, List.getElem_toArray, List.getElem_cons_succ, List.getElem_cons_zero, List.setIfInBounds_toArray, List.set_cons_zero, List.set_cons_succ]
            refine AnyBut.two (i := 4) (j := 5) (by kernel_rfl) rfl rfl (fun K hK => ?_) (fun K hK => ?_)
            · go_simp
              have hka := (Kept.refl (fun _ => False) wx13).alloc (.cells #[.int .i64 0, .int .u64 0, .int .i64 0, .slice none 0 0, .int .i64 0, .slice none 0 0] 27)
              have KDx134 := Lib.hid (KDx13.out.trans hka)
              have B4x134 := Lib.hid (hist_boxed wx13 zeroH (.slice none 0 0) (.slice none 0 0))
              have HQ4 := Lib.hid (show w3.heap.size ≤ wx13.heap.size from KDx13.out.size)
              have P1x134 := Lib.hid (P1x13.out.on hka)
              have Q1x134 := Lib.hid (Q1x13.out.on hka)
              have P3x134 := Lib.hid (P3x13.out.on hka)
              have Q3x134 := Lib.hid (Q3x13.out.on hka)
              unfold zeroH at B4x134
              simp only at B4x134
              obtain ⟨wx134, hw⟩ : ∃ w', w' = wx13.alloc (.cells #[.int .i64 0, .int .u64 0, .int .i64 0, .slice none 0 0, .int .i64 0, .slice none 0 0] 27) := ⟨_, rfl⟩
              obtain ⟨q4, hq⟩ : ∃ x, x = wx13.heap.size := ⟨_, rfl⟩
              rw [show (wx13.alloc (.cells #[.int .i64 0, .int .u64 ((0 : Nat) : Int), .int .i64 0, .slice none 0 0, .int .i64 0, .slice none 0 0] 27)) = wx134 from hw.symm] at B4x134
              rw [← hw] at KDx134 P1x134 Q1x134 P3x134 Q3x134 ⊢
              rw [← hq] at B4x134 HQ4  ⊢
              clear hw hq hka
              have HSSx134 : Hid ((fun w' => (w'.cell? ⟨W.heap.size, 0, none⟩ = some (.int .i64 asc) ∧ w'.cell? ⟨W.heap.size, 1, none⟩ = some (.int .u64 (aze : Int)) ∧ w'.cell? ⟨W.heap.size, 2, none⟩ = some (.int .i64 apo) ∧ w'.cell? ⟨W.heap.size, 3, none⟩ = some (.slice ao apl.length c) ∧ w'.cell? ⟨W.heap.size, 4, none⟩ = some (.int .i64 ano) ∧ w'.cell? ⟨W.heap.size, 5, none⟩ = some (.slice a1 anl.length c1)) ∧ (w'.cell? ⟨(W.heap.size + 1), 0, none⟩ = some (.int .i64 bsc) ∧ w'.cell? ⟨(W.heap.size + 1), 1, none⟩ = some (.int .u64 (bze : Int)) ∧ w'.cell? ⟨(W.heap.size + 1), 2, none⟩ = some (.int .i64 bpo) ∧ w'.cell? ⟨(W.heap.size + 1), 3, none⟩ = some (.slice bo bpl.length d) ∧ w'.cell? ⟨(W.heap.size + 1), 4, none⟩ = some (.int .i64 bno) ∧ w'.cell? ⟨(W.heap.size + 1), 5, none⟩ = some (.slice b1 bnl.length d1))) wx134) := Lib.hid ⟨(HVA.out.on KDx134.out).box.c, (HVB.out.on KDx134.out).box.c⟩
              refine hK.out _ _ (HSSx134.out) ?_
              clear hK K
              try simp only [Act.put, List.getElem_toArray, List.getElem_cons_succ, List.getElem_cons_zero, List.setIfInBounds_toArray, List.set_cons_zero, List.set_cons_succ]
              refine AnyBut.one (i := 5) (by kernel_rfl) rfl (fun K hK => ?_)
              go_simp
              have hka := (Kept.refl (fun _ => False) wx134).alloc (.cells #[.int .i64 0, .int .u64 0, .int .i64 0, .slice none 0 0, .int .i64 0, .slice none 0 0] 27)
              have KDx1345 := Lib.hid (KDx134.out.trans hka)
              have B5x1345 := Lib.hid (hist_boxed wx134 zeroH (.slice none 0 0) (.slice none 0 0))
              have HQ5 := Lib.hid (show w3.heap.size ≤ wx134.heap.size from KDx134.out.size)
              have HNE := Lib.hid (show q4 ≠ wx134.heap.size from fun e => by have := (Array.getElem?_eq_some_iff.1 B4x134.out).1; omega)
              have P1x1345 := Lib.hid (P1x134.out.on hka)
              have Q1x1345 := Lib.hid (Q1x134.out.on hka)
              have P3x1345 := Lib.hid (P3x134.out.on hka)
              have Q3x1345 := Lib.hid (Q3x134.out.on hka)
              have B4x1345 := Lib.hid (B4x134.out.same hka (fun x => x))
              unfold zeroH at B5x1345
              simp only at B5x1345
              obtain ⟨wx1345, hw⟩ : ∃ w', w' = wx134.alloc (.cells #[.int .i64 0, .int .u64 0, .int .i64 0, .slice none 0 0, .int .i64 0, .slice none 0 0] 27) := ⟨_, rfl⟩
              obtain ⟨q5, hq⟩ : ∃ x, x = wx134.heap.size := ⟨_, rfl⟩
              rw [show (wx134.alloc (.cells #[.int .i64 0, .int .u64 ((0 : Nat) : Int), .int .i64 0, .slice none 0 0, .int .i64 0, .slice none 0 0] 27)) = wx1345 from hw.symm] at B5x1345
              rw [← hw] at KDx1345 P1x1345 Q1x1345 P3x1345 Q3x1345 B4x1345 ⊢
              rw [← hq] at B5x1345 HQ5 HNE ⊢
              clear hw hq hka
              have HSSx1345 : Hid ((fun w' => (w'.cell? ⟨W.heap.size, 0, none⟩ = some (.int .i64 asc) ∧ w'.cell? ⟨W.heap.size, 1, none⟩ = some (.int .u64 (aze : Int)) ∧ w'.cell? ⟨W.heap.size, 2, none⟩ = some (.int .i64 apo) ∧ w'.cell? ⟨W.heap.size, 3, none⟩ = some (.slice ao apl.length c) ∧ w'.cell? ⟨W.heap.size, 4, none⟩ = some (.int .i64 ano) ∧ w'.cell? ⟨W.heap.size, 5, none⟩ = some (.slice a1 anl.length c1)) ∧ (w'.cell? ⟨(W.heap.size + 1), 0, none⟩ = some (.int .i64 bsc) ∧ w'.cell? ⟨(W.heap.size + 1), 1, none⟩ = some (.int .u64 (bze : Int)) ∧ w'.cell? ⟨(W.heap.size + 1), 2, none⟩ = some (.int .i64 bpo) ∧ w'.cell? ⟨(W.heap.size + 1), 3, none⟩ = some (.slice bo bpl.length d) ∧ w'.cell? ⟨(W.heap.size + 1), 4, none⟩ = some (.int .i64 bno) ∧ w'.cell? ⟨(W.heap.size + 1), 5, none⟩ = some (.slice b1 bnl.length d1))) wx1345) := Lib.hid ⟨(HVA.out.on KDx1345.out).box.c, (HVB.out.on KDx1345.out).box.c⟩
              refine hK.out _ _ (HSSx1345.out) ?_
              clear hK K
              try simp only [Act.put, List.getElem_toArray, List.getElem_cons_succ, List.getElem_cons_zero, List.setIfInBounds_toArray, List.set_cons_zero, List.set_cons_succ]
              refine AnyBut.one (i := 6) (by kernel_rfl) rfl (fun K hK => ?_)
              obtain ⟨z0, z1, z2, z3, z4, z5⟩ := B4x1345.out.c
              have zf := B4x1345.out.f
              simp only at z0 z1 z2 z4
              go_simp
              go_wp2
              have V4x13456 := Lib.hid (B4x1345.out.set ⟨asc, aze, apo, apl, ano, anl⟩ (.slice pa1 (uvals apl).length pc1) (.slice na1 (uvals anl).length nc1))
              have KDx13456 := Lib.hid (KDx1345.out.newer (set6_kept wx1345 q4 (.int .i64 asc) (.int .u64 (aze : Int)) (.int .i64 apo) (.slice pa1 (uvals apl).length pc1) (.int .i64 ano) (.slice na1 (uvals anl).length nc1)) (fun k e => by have := HQ4.out; omega))
              have P1x13456 := Lib.hid (P1x1345.out.set6 B4x1345.out HQ4.out (.int .i64 asc) (.int .u64 (aze : Int)) (.int .i64 apo) (.slice pa1 (uvals apl).length pc1) (.int .i64 ano) (.slice na1 (uvals anl).length nc1))
              have Q1x13456 := Lib.hid (Q1x1345.out.set6 B4x1345.out HQ4.out (.int .i64 asc) (.int .u64 (aze : Int)) (.int .i64 apo) (.slice pa1 (uvals apl).length pc1) (.int .i64 ano) (.slice na1 (uvals anl).length nc1))
              have P3x13456 := Lib.hid (P3x1345.out.set6 B4x1345.out HQ4.out (.int .i64 asc) (.int .u64 (aze : Int)) (.int .i64 apo) (.slice pa1 (uvals apl).length pc1) (.int .i64 ano) (.slice na1 (uvals anl).length nc1))
              have Q3x13456 := Lib.hid (Q3x1345.out.set6 B4x1345.out HQ4.out (.int .i64 asc) (.int .u64 (aze : Int)) (.int .i64 apo) (.slice pa1 (uvals apl).length pc1) (.int .i64 ano) (.slice na1 (uvals anl).length nc1))
              have B5x13456 := Lib.hid (B5x1345.out.same (set6_kept wx1345 q4 (.int .i64 asc) (.int .u64 (aze : Int)) (.int .i64 apo) (.slice pa1 (uvals apl).length pc1) (.int .i64 ano) (.slice na1 (uvals anl).length nc1)) (fun e => by have := HNE.out; omega))
              simp only at V4x13456
              obtain ⟨wx13456, hw⟩ : ∃ w', w' = set6 wx1345 q4 (.int .i64 asc) (.int .u64 (aze : Int)) (.int .i64 apo) (.slice pa1 (uvals apl).length pc1) (.int .i64 ano) (.slice na1 (uvals anl).length nc1) := ⟨_, rfl⟩
              rw [← hw] at V4x13456 KDx13456 P1x13456 Q1x13456 P3x13456 Q3x13456 B5x13456
              unfold set6 at hw
              rw [← hw]
              clear hw z0 z1 z2 z3 z4 z5 zf
              have HSSx13456 : Hid ((fun w' => (w'.cell? ⟨W.heap.size, 0, none⟩ = some (.int .i64 asc) ∧ w'.cell? ⟨W.heap.size, 1, none⟩ = some (.int .u64 (aze : Int)) ∧ w'.cell? ⟨W.heap.size, 2, none⟩ = some (.int .i64 apo) ∧ w'.cell? ⟨W.heap.size, 3, none⟩ = some (.slice ao apl.length c) ∧ w'.cell? ⟨W.heap.size, 4, none⟩ = some (.int .i64 ano) ∧ w'.cell? ⟨W.heap.size, 5, none⟩ = some (.slice a1 anl.length c1)) ∧ (w'.cell? ⟨(W.heap.size + 1), 0, none⟩ = some (.int .i64 bsc) ∧ w'.cell? ⟨(W.heap.size + 1), 1, none⟩ = some (.int .u64 (bze : Int)) ∧ w'.cell? ⟨(W.heap.size + 1), 2, none⟩ = some (.int .i64 bpo) ∧ w'.cell? ⟨(W.heap.size + 1), 3, none⟩ = some (.slice bo bpl.length d) ∧ w'.cell? ⟨(W.heap.size + 1), 4, none⟩ = some (.int .i64 bno) ∧ w'.cell? ⟨(W.heap.size + 1), 5, none⟩ = some (.slice b1 bnl.length d1))) wx13456) := Lib.hid ⟨(HVA.out.on KDx13456.out).box.c, (HVB.out.on KDx13456.out).box.c⟩
              refine hK.out _ _ (HSSx13456.out) ?_
              clear hK K
              try simp only [Act.put, List.getElem_toArray, List.getElem_cons_succ, List.getElem_cons_zero, List.setIfInBounds_toArray, List.set_cons_zero, List.set_cons_succ]
              refine AnyBut.one (i := 7) (by kernel_rfl) rfl (fun K hK => ?_)
              obtain ⟨z0, z1, z2, z3, z4, z5⟩ := B5x13456.out.c
              have zf := B5x13456.out.f
              simp only at z0 z1 z2 z4
              go_simp
              go_wp2
              have V5x134567 := Lib.hid (B5x13456.out.set ⟨bsc, bze, bpo, bpl, bno, bnl⟩ (.slice pa3 (uvals bpl).length pc3) (.slice na3 (uvals bnl).length nc3))
              have KDx134567 := Lib.hid (KDx13456.out.newer (set6_kept wx13456 q5 (.int .i64 bsc) (.int .u64 (bze : Int)) (.int .i64 bpo) (.slice pa3 (uvals bpl).length pc3) (.int .i64 bno) (.slice na3 (uvals bnl).length nc3)) (fun k e => by have := HQ5.out; omega))
              have P1x134567 := Lib.hid (P1x13456.out.set6 B5x13456.out HQ5.out (.int .i64 bsc) (.int .u64 (bze : Int)) (.int .i64 bpo) (.slice pa3 (uvals bpl).length pc3) (.int .i64 bno) (.slice na3 (uvals bnl).length nc3))
              have Q1x134567 := Lib.hid (Q1x13456.out.set6 B5x13456.out HQ5.out (.int .i64 bsc) (.int .u64 (bze : Int)) (.int .i64 bpo) (.slice pa3 (uvals bpl).length pc3) (.int .i64 bno) (.slice na3 (uvals bnl).length nc3))
              have P3x134567 := Lib.hid (P3x13456.out.set6 B5x13456.out HQ5.out (.int .i64 bsc) (.int .u64 (bze : Int)) (.int .i64 bpo) (.slice pa3 (uvals bpl).length pc3) (.int .i64 bno) (.slice na3 (uvals bnl).length nc3))
              have Q3x134567 := Lib.hid (Q3x13456.out.set6 B5x13456.out HQ5.out (.int .i64 bsc) (.int .u64 (bze : Int)) (.int .i64 bpo) (.slice pa3 (uvals bpl).length pc3) (.int .i64 bno) (.slice na3 (uvals bnl).length nc3))
              have V4x134567 := Lib.hid (V4x13456.out.same (set6_kept wx13456 q5 (.int .i64 bsc) (.int .u64 (bze : Int)) (.int .i64 bpo) (.slice pa3 (uvals bpl).length pc3) (.int .i64 bno) (.slice na3 (uvals bnl).length nc3)) (fun e => by have := HNE.out; omega))
              simp only at V5x134567
              obtain ⟨wx134567, hw⟩ : ∃ w', w' = set6 wx13456 q5 (.int .i64 bsc) (.int .u64 (bze : Int)) (.int .i64 bpo) (.slice pa3 (uvals bpl).length pc3) (.int .i64 bno) (.slice na3 (uvals bnl).length nc3) := ⟨_, rfl⟩
              rw [← hw] at V5x134567 KDx134567 P1x134567 Q1x134567 P3x134567 Q3x134567 V4x134567
              unfold set6 at hw
              rw [← hw]
              clear hw z0 z1 z2 z3 z4 z5 zf
              have HSSx134567 : Hid ((fun w' => (w'.cell? ⟨W.heap.size, 0, none⟩ = some (.int .i64 asc) ∧ w'.cell? ⟨W.heap.size, 1, none⟩ = some (.int .u64 (aze : Int)) ∧ w'.cell? ⟨W.heap.size, 2, none⟩ = some (.int .i64 apo) ∧ w'.cell? ⟨W.heap.size, 3, none⟩ = some (.slice ao apl.length c) ∧ w'.cell? ⟨W.heap.size, 4, none⟩ = some (.int .i64 ano) ∧ w'.cell? ⟨W.heap.size, 5, none⟩ = some (.slice a1 anl.length c1)) ∧ (w'.cell? ⟨(W.heap.size + 1), 0, none⟩ = some (.int .i64 bsc) ∧ w'.cell? ⟨(W.heap.size + 1), 1, none⟩ = some (.int .u64 (bze : Int)) ∧ w'.cell? ⟨(W.heap.size + 1), 2, none⟩ = some (.int .i64 bpo) ∧ w'.cell? ⟨(W.heap.size + 1), 3, none⟩ = some (.slice bo bpl.length d) ∧ w'.cell? ⟨(W.heap.size + 1), 4, none⟩ = some (.int .i64 bno) ∧ w'.cell? ⟨(W.heap.size + 1), 5, none⟩ = some (.slice b1 bnl.length d1))) wx134567) := Lib.hid ⟨(HVA.out.on KDx134567.out).box.c, (HVB.out.on KDx134567.out).box.c⟩
              refine hK.out _ _ (HSSx134567.out) ?_
              clear hK K
              try simp only [Act.put, List.getElem_toArray, List.getElem_cons_succ, List.getElem_cons_zero, List.setIfInBounds_toArray, List.set_cons_zero, List.set_cons_succ]
              refine AnyBut.done (by kernel_rfl) ?_
              go_wp2
              go_meet
              exact ⟨q4, q5, _, _, _, _, rfl, rfl, ⟨V4x134567.out, P1x134567.out.at_, Q1x134567.out.at_⟩, ⟨V5x134567.out, P3x134567.out.at_, Q3x134567.out.at_⟩, KDx134567.out⟩
            · go_simp
              have hka := (Kept.refl (fun _ => False) wx13).alloc (.cells #[.int .i64 0, .int .u64 0, .int .i64 0, .slice none 0 0, .int .i64 0, .slice none 0 0] 27)
              have KDx135 := Lib.hid (KDx13.out.trans hka)
              have B5x135 := Lib.hid (hist_boxed wx13 zeroH (.slice none 0 0) (.slice none 0 0))
              have HQ5 := Lib.hid (show w3.heap.size ≤ wx13.heap.size from KDx13.out.size)
              have P1x135 := Lib.hid (P1x13.out.on hka)
              have Q1x135 := Lib.hid (Q1x13.out.on hka)
              have P3x135 := Lib.hid (P3x13.out.on hka)
              have Q3x135 := Lib.hid (Q3x13.out.on hka)
              unfold zeroH at B5x135
              simp only at B5x135
              obtain ⟨wx135, hw⟩ : ∃ w', w' = wx13.alloc (.cells #[.int .i64 0, .int .u64 0, .int .i64 0, .slice none 0 0, .int .i64 0, .slice none 0 0] 27) := ⟨_, rfl⟩
              obtain ⟨q5, hq⟩ : ∃ x, x = wx13.heap.size := ⟨_, rfl⟩
              rw [show (wx13.alloc (.cells #[.int .i64 0, .int .u64 ((0 : Nat) : Int), .int .i64 0, .slice none 0 0, .int .i64 0, .slice none 0 0] 27)) = wx135 from hw.symm] at B5x135
              rw [← hw] at KDx135 P1x135 Q1x135 P3x135 Q3x135 ⊢
              rw [← hq] at B5x135 HQ5  ⊢
              clear hw hq hka
              have HSSx135 : Hid ((fun w' => (w'.cell? ⟨W.heap.size, 0, none⟩ = some (.int .i64 asc) ∧ w'.cell? ⟨W.heap.size, 1, none⟩ = some (.int .u64 (aze : Int)) ∧ w'.cell? ⟨W.heap.size, 2, none⟩ = some (.int .i64 apo) ∧ w'.cell? ⟨W.heap.size, 3, none⟩ = some (.slice ao apl.length c) ∧ w'.cell? ⟨W.heap.size, 4, none⟩ = some (.int .i64 ano) ∧ w'.cell? ⟨W.heap.size, 5, none⟩ = some (.slice a1 anl.length c1)) ∧ (w'.cell? ⟨(W.heap.size + 1), 0, none⟩ = some (.int .i64 bsc) ∧ w'.cell? ⟨(W.heap.size + 1), 1, none⟩ = some (.int .u64 (bze : Int)) ∧ w'.cell? ⟨(W.heap.size + 1), 2, none⟩ = some (.int .i64 bpo) ∧ w'.cell? ⟨(W.heap.size + 1), 3, none⟩ = some (.slice bo bpl.length d) ∧ w'.cell? ⟨(W.heap.size + 1), 4, none⟩ = some (.int .i64 bno) ∧ w'.cell? ⟨(W.heap.size + 1), 5, none⟩ = some (.slice b1 bnl.length d1))) wx135) := Lib.hid ⟨(HVA.out.on KDx135.out).box.c, (HVB.out.on KDx135.out).box.c⟩
              refine hK.out _ _ (HSSx135.out) ?_
              clear hK K
              try simp only [Act.put, List.getElem_toArray, List.getElem_cons_succ, List.getElem_cons_zero, List.setIfInBounds_toArray, List.set_cons_zero, List.set_cons_succ]
              refine AnyBut.one (i := 4) (by kernel_rfl) rfl (fun K hK => ?_)
              go_simp
              have hka := (Kept.refl (fun _ => False) wx135).alloc (.cells #[.int .i64 0, .int .u64 0, .int .i64 0, .slice none 0 0, .int .i64 0, .slice none 0 0] 27)
              have KDx1354 := Lib.hid (KDx135.out.trans hka)
              have B4x1354 := Lib.hid (hist_boxed wx135 zeroH (.slice none 0 0) (.slice none 0 0))
              have HQ4 := Lib.hid (show w3.heap.size ≤ wx135.heap.size from KDx135.out.size)
              have HNE := Lib.hid (show q5 ≠ wx135.heap.size from fun e => by have := (Array.getElem?_eq_some_iff.1 B5x135.out).1; omega)
              have P1x1354 := Lib.hid (P1x135.out.on hka)
              have Q1x1354 := Lib.hid (Q1x135.out.on hka)
              have P3x1354 := Lib.hid (P3x135.out.on hka)
              have Q3x1354 := Lib.hid (Q3x135.out.on hka)
              have B5x1354 := Lib.hid (B5x135.out.same hka (fun x => x))
              unfold zeroH at B4x1354
              simp only at B4x1354
              obtain ⟨wx1354, hw⟩ : ∃ w', w' = wx135.alloc (.cells #[.int .i64 0, .int .u64 0, .int .i64 0, .slice none 0 0, .int .i64 0, .slice none 0 0] 27) := ⟨_, rfl⟩
              obtain ⟨q4, hq⟩ : ∃ x, x = wx135.heap.size := ⟨_, rfl⟩
              rw [show (wx135.alloc (.cells #[.int .i64 0, .int .u64 ((0 : Nat) : Int), .int .i64 0, .slice none 0 0, .int .i64 0, .slice none 0 0] 27)) = wx1354 from hw.symm] at B4x1354
              rw [← hw] at KDx1354 P1x1354 Q1x1354 P3x1354 Q3x1354 B5x1354 ⊢
              rw [← hq] at B4x1354 HQ4 HNE ⊢
              clear hw hq hka
              have HSSx1354 : Hid ((fun w' => (w'.cell? ⟨W.heap.size, 0, none⟩ = some (.int .i64 asc) ∧ w'.cell? ⟨W.heap.size, 1, none⟩ = some (.int .u64 (aze : Int)) ∧ w'.cell? ⟨W.heap.size, 2, none⟩ = some (.int .i64 apo) ∧ w'.cell? ⟨W.heap.size, 3, none⟩ = some (.slice ao apl.length c) ∧ w'.cell? ⟨W.heap.size, 4, none⟩ = some (.int .i64 ano) ∧ w'.cell? ⟨W.heap.size, 5, none⟩ = some (.slice a1 anl.length c1)) ∧ (w'.cell? ⟨(W.heap.size + 1), 0, none⟩ = some (.int .i64 bsc) ∧ w'.cell? ⟨(W.heap.size + 1), 1, none⟩ = some (.int .u64 (bze : Int)) ∧ w'.cell? ⟨(W.heap.size + 1), 2, none⟩ = some (.int .i64 bpo) ∧ w'.cell? ⟨(W.heap.size + 1), 3, none⟩ = some (.slice bo bpl.length d) ∧ w'.cell? ⟨(W.heap.size + 1), 4, none⟩ = some (.int .i64 bno) ∧ w'.cell? ⟨(W.heap.size + 1), 5, none⟩ = some (.slice b1 bnl.length d1))) wx1354) := Lib.hid ⟨(HVA.out.on KDx1354.out).box.c, (HVB.out.on KDx1354.out).box.c⟩
              refine hK.out _ _ (HSSx1354.out) ?_
              clear hK K
              try simp only [Act.put, List.getElem_toArray, List.getElem_cons_succ, List.getElem_cons_zero, List.setIfInBounds_toArray, List.set_cons_zero, List.set_cons_succ]
              refine AnyBut.one (i := 6) (by kernel_rfl) rfl (fun K hK => ?_)
              obtain ⟨z0, z1, z2, z3, z4, z5⟩ := B4x1354.out.c
              have zf := B4x1354.out.f
              simp only at z0 z1 z2 z4
              go_simp
              go_wp2
              have V4x13546 := Lib.hid (B4x1354.out.set ⟨asc, aze, apo, apl, ano, anl⟩ (.slice pa1 (uvals apl).length pc1) (.slice na1 (uvals anl).length nc1))
              have KDx13546 := Lib.hid (KDx1354.out.newer (set6_kept wx1354 q4 (.int .i64 asc) (.int .u64 (aze : Int)) (.int .i64 apo) (.slice pa1 (uvals apl).length pc1) (.int .i64 ano) (.slice na1 (uvals anl).length nc1)) (fun k e => by have := HQ4.out; omega))
              have P1x13546 := Lib.hid (P1x1354.out.set6 B4x1354.out HQ4.out (.int .i64 asc) (.int .u64 (aze : Int)) (.int .i64 apo) (.slice pa1 (uvals apl).length pc1) (.int .i64 ano) (.slice na1 (uvals anl).length nc1))
              have Q1x13546 := Lib.hid (Q1x1354.out.set6 B4x1354.out HQ4.out (.int .i64 asc) (.int .u64 (aze : Int)) (.int .i64 apo) (.slice pa1 (uvals apl).length pc1) (.int .i64 ano) (.slice na1 (uvals anl).length nc1))
              have P3x13546 := Lib.hid (P3x1354.out.set6 B4x1354.out HQ4.out (.int .i64 asc) (.int .u64 (aze : Int)) (.int .i64 apo) (.slice pa1 (uvals apl).length pc1) (.int .i64 ano) (.slice na1 (uvals anl).length nc1))
              have Q3x13546 := Lib.hid (Q3x1354.out.set6 B4x1354.out HQ4.out (.int .i64 asc) (.int .u64 (aze : Int)) (.int .i64 apo) (.slice pa1 (uvals apl).length pc1) (.int .i64 ano) (.slice na1 (uvals anl).length nc1))
              have B5x13546 := Lib.hid (B5x1354.out.same (set6_kept wx1354 q4 (.int .i64 asc) (.int .u64 (aze : Int)) (.int .i64 apo) (.slice pa1 (uvals apl).length pc1) (.int .i64 ano) (.slice na1 (uvals anl).length nc1)) (fun e => by have := HNE.out; omega))
              simp only at V4x13546
              obtain ⟨wx13546, hw⟩ : ∃ w', w' = set6 wx1354 q4 (.int .i64 asc) (.int .u64 (aze : Int)) (.int .i64 apo) (.slice pa1 (uvals apl).length pc1) (.int .i64 ano) (.slice na1 (uvals anl).length nc1) := ⟨_, rfl⟩
              rw [← hw] at V4x13546 KDx13546 P1x13546 Q1x13546 P3x13546 Q3x13546 B5x13546
              unfold set6 at hw
              rw [← hw]
              clear hw z0 z1 z2 z3 z4 z5 zf
              have HSSx13546 : Hid ((fun w' => (w'.cell? ⟨W.heap.size, 0, none⟩ = some (.int .i64 asc) ∧ w'.cell? ⟨W.heap.size, 1, none⟩ = some (.int .u64 (aze : Int)) ∧ w'.cell? ⟨W.heap.size, 2, none⟩ = some (.int .i64 apo) ∧ w'.cell? ⟨W.heap.size, 3, none⟩ = some (.slice ao apl.length c) ∧ w'.cell? ⟨W.heap.size, 4, none⟩ = some (.int .i64 ano) ∧ w'.cell? ⟨W.heap.size, 5, none⟩ = some (.slice a1 anl.length c1)) ∧ (w'.cell? ⟨(W.heap.size + 1), 0, none⟩ = some (.int .i64 bsc) ∧ w'.cell? ⟨(W.heap.size + 1), 1, none⟩ = some (.int .u64 (bze : Int)) ∧ w'.cell? ⟨(W.heap.size + 1), 2, none⟩ = some (.int .i64 bpo) ∧ w'.cell? ⟨(W.heap.size + 1), 3, none⟩ = some (.slice bo bpl.length d) ∧ w'.cell? ⟨(W.heap.size + 1), 4, none⟩ = some (.int .i64 bno) ∧ w'.cell? ⟨(W.heap.size + 1), 5, none⟩ = some (.slice b1 bnl.length d1))) wx13546) := Lib.hid ⟨(HVA.out.on KDx13546.out).box.c, (HVB.out.on KDx13546.out).box.c⟩
              refine hK.out _ _ (HSSx13546.out) ?_
              clear hK K
              try simp only [Act.put, List.getElem_toArray, List.getElem_cons_succ, List.getElem_cons_zero, List.setIfInBounds_toArray, List.set_cons_zero, List.set_cons_succ]
              refine AnyBut.one (i := 7) (by kernel_rfl) rfl (fun K hK => ?_)
              obtain ⟨z0, z1, z2, z3, z4, z5⟩ := B5x13546.out.c
              have zf := B5x13546.out.f
              simp only at z0 z1 z2 z4
              go_simp
              go_wp2
              have V5x135467 := Lib.hid (B5x13546.out.set ⟨bsc, bze, bpo, bpl, bno, bnl⟩ (.slice pa3 (uvals bpl).length pc3) (.slice na3 (uvals bnl).length nc3))
              have KDx135467 := Lib.hid (KDx13546.out.newer (set6_kept wx13546 q5 (.int .i64 bsc) (.int .u64 (bze : Int)) (.int .i64 bpo) (.slice pa3 (uvals bpl).length pc3) (.int .i64 bno) (.slice na3 (uvals bnl).length nc3)) (fun k e => by have := HQ5.out; omega))
              have P1x135467 := Lib.hid (P1x13546.out.set6 B5x13546.out HQ5.out (.int .i64 bsc) (.int .u64 (bze : Int)) (.int .i64 bpo) (.slice pa3 (uvals bpl).length pc3) (.int .i64 bno) (.slice na3 (uvals bnl).length nc3))
              have Q1x135467 := Lib.hid (Q1x13546.out.set6 B5x13546.out HQ5.out (.int .i64 bsc) (.int .u64 (bze : Int)) (.int .i64 bpo) (.slice pa3 (uvals bpl).length pc3) (.int .i64 bno) (.slice na3 (uvals bnl).length nc3))
              have P3x135467 := Lib.hid (P3x13546.out.set6 B5x13546.out HQ5.out (.int .i64 bsc) (.int .u64 (bze : Int)) (.int .i64 bpo) (.slice pa3 (uvals bpl).length pc3) (.int .i64 bno) (.slice na3 (uvals bnl).length nc3))
              have Q3x135467 := Lib.hid (Q3x13546.out.set6 B5x13546.out HQ5.out (.int .i64 bsc) (.int .u64 (bze : Int)) (.int .i64 bpo) (.slice pa3 (uvals bpl).length pc3) (.int .i64 bno) (.slice na3 (uvals bnl).length nc3))
              have V4x135467 := Lib.hid (V4x13546.out.same (set6_kept wx13546 q5 (.int .i64 bsc) (.int .u64 (bze : Int)) (.int .i64 bpo) (.slice pa3 (uvals bpl).length pc3) (.int .i64 bno) (.slice na3 (uvals bnl).length nc3)) (fun e => by have := HNE.out; omega))
              simp only at V5x135467
              obtain ⟨wx135467, hw⟩ : ∃ w', w' = set6 wx13546 q5 (.int .i64 bsc) (.int .u64 (bze : Int)) (.int .i64 bpo) (.slice pa3 (uvals bpl).length pc3) (.int .i64 bno) (.slice na3 (uvals bnl).length nc3) := ⟨_, rfl⟩
              rw [← hw] at V5x135467 KDx135467 P1x135467 Q1x135467 P3x135467 Q3x135467 V4x135467
              unfold set6 at hw
              rw [← hw]
              clear hw z0 z1 z2 z3 z4 z5 zf
              have HSSx135467 : Hid ((fun w' => (w'.cell? ⟨W.heap.size, 0, none⟩ = some (.int .i64 asc) ∧ w'.cell? ⟨W.heap.size, 1, none⟩ = some (.int .u64 (aze : Int)) ∧ w'.cell? ⟨W.heap.size, 2, none⟩ = some (.int .i64 apo) ∧ w'.cell? ⟨W.heap.size, 3, none⟩ = some (.slice ao apl.length c) ∧ w'.cell? ⟨W.heap.size, 4, none⟩ = some (.int .i64 ano) ∧ w'.cell? ⟨W.heap.size, 5, none⟩ = some (.slice a1 anl.length c1)) ∧ (w'.cell? ⟨(W.heap.size + 1), 0, none⟩ = some (.int .i64 bsc) ∧ w'.cell? ⟨(W.heap.size + 1), 1, none⟩ = some (.int .u64 (bze : Int)) ∧ w'.cell? ⟨(W.heap.size + 1), 2, none⟩ = some (.int .i64 bpo) ∧ w'.cell? ⟨(W.heap.size + 1), 3, none⟩ = some (.slice bo bpl.length d) ∧ w'.cell? ⟨(W.heap.size + 1), 4, none⟩ = some (.int .i64 bno) ∧ w'.cell? ⟨(W.heap.size + 1), 5, none⟩ = some (.slice b1 bnl.length d1))) wx135467) := Lib.hid ⟨(HVA.out.on KDx135467.out).box.c, (HVB.out.on KDx135467.out).box.c⟩
              refine hK.out _ _ (HSSx135467.out) ?_
              clear hK K
              try simp only [Act.put, List.getElem_toArray, List.getElem_cons_succ, List.getElem_cons_zero, List.setIfInBounds_toArray, List.set_cons_zero, List.set_cons_succ]
              refine AnyBut.done (by kernel_rfl) ?_
              go_wp2
              go_meet
              exact ⟨q4, q5, _, _, _, _, rfl, rfl, ⟨V4x135467.out, P1x135467.out.at_, Q1x135467.out.at_⟩, ⟨V5x135467.out, P3x135467.out.at_, Q3x135467.out.at_⟩, KDx135467.out⟩
          · go_simp
            have hka := (Kept.refl (fun _ => False) wx1).alloc (.cells #[.int .i64 0, .int .u64 0, .int .i64 0, .slice none 0 0, .int .i64 0, .slice none 0 0] 27)
            have KDx14 := Lib.hid (KDx1.out.trans hka)
            have B4x14 := Lib.hid (hist_boxed wx1 zeroH (.slice none 0 0) (.slice none 0 0))
            have HQ4 := Lib.hid (show w3.heap.size ≤ wx1.heap.size from KDx1.out.size)
            have P1x14 := Lib.hid (P1x1.out.on hka)
            have Q1x14 := Lib.hid (Q1x1.out.on hka)
            unfold zeroH at B4x14
            simp only at B4x14
            obtain ⟨wx14, hw⟩ : ∃ w', w' = wx1.alloc (.cells #[.int .i64 0, .int .u64 0, .int .i64 0, .slice none 0 0, .int .i64 0, .slice none 0 0] 27) := ⟨_, rfl⟩
            obtain ⟨q4, hq⟩ : ∃ x, x = wx1.heap.size := ⟨_, rfl⟩
            rw [show (wx1.alloc (.cells #[.int .i64 0, .int .u64 ((0 : Nat) : Int), .int .i64 0, .slice none 0 0, .int .i64 0, .slice none 0 0] 27)) = wx14 from hw.symm] at B4x14
            rw [← hw] at KDx14 P1x14 Q1x14 ⊢
            rw [← hq] at B4x14 HQ4  ⊢
            clear hw hq hka
            have HSSx14 : Hid ((fun w' => (w'.cell? ⟨W.heap.size, 0, none⟩ = some (.int .i64 asc) ∧ w'.cell? ⟨W.heap.size, 1, none⟩ = some (.int .u64 (aze : Int)) ∧ w'.cell? ⟨W.heap.size, 2, none⟩ = some (.int .i64 apo) ∧ w'.cell? ⟨W.heap.size, 3, none⟩ = some (.slice ao apl.length c) ∧ w'.cell? ⟨W.heap.size, 4, none⟩ = some (.int .i64 ano) ∧ w'.cell? ⟨W.heap.size, 5, none⟩ = some (.slice a1 anl.length c1)) ∧ (w'.cell? ⟨(W.heap.size + 1), 0, none⟩ = some (.int .i64 bsc) ∧ w'.cell? ⟨(W.heap.size + 1), 1, none⟩ = some (.int .u64 (bze : Int)) ∧ w'.cell? ⟨(W.heap.size + 1), 2, none⟩ = some (.int .i64 bpo) ∧ w'.cell? ⟨(W.heap.size + 1), 3, none⟩ = some (.slice bo bpl.length d) ∧ w'.cell? ⟨(W.heap.size + 1), 4, none⟩ = some (.int .i64 bno) ∧ w'.cell? ⟨(W.heap.size + 1), 5, none⟩ = some (.slice b1 bnl.length d1))) wx14) := Lib.hid ⟨(HVA.out.on KDx14.out).box.c, (HVB.out.on KDx14.out).box.c⟩
            refine hK.out _ _ (HSSx14.out) ?_
            clear hK K
            try simp only [Act.put, List.getElem_toArray, List.getElem_cons_succ, List.getElem_cons_zero, List.setIfInBounds_toArray, List.set_cons_zero, List.set_cons_succ]
            refine AnyBut.two (i := 3) (j := 5) (by kernel_rfl) rfl rfl (fun K hK => ?_) (fun K hK => ?_)
            · go_simp
              go_wp2_with fail
              refine (HCB.out _ (HVB.out.on KDx14.out).at_).mono ?_
              rintro e wx143 ⟨pv, nv, rfl, m1, m2⟩
              obtain ⟨pa3, pc3, rfl⟩ := m1.slice
              obtain ⟨na3, nc3, rfl⟩ := m2.slice
              have KDx143 := Lib.hid (KDx14.out.trans m1.kept)
              have P3x143 := Lib.hid (m1.down KDx14.out)
              have Q3x143 := Lib.hid (m2.down KDx14.out)
              have P1x143 := Lib.hid (P1x14.out.on m1.kept)
              have Q1x143 := Lib.hid (Q1x14.out.on m1.kept)
              have B4x143 := Lib.hid (B4x14.out.same m1.kept (fun x => x))
              clear m1 m2
              have HSSx143 : Hid ((fun w' => (w'.cell? ⟨W.heap.size, 0, none⟩ = some (.int .i64 asc) ∧ w'.cell? ⟨W.heap.size, 1, none⟩ = some (.int .u64 (aze : Int)) ∧ w'.cell? ⟨W.heap.size, 2, none⟩ = some (.int .i64 apo) ∧ w'.cell? ⟨W.heap.size, 3, none⟩ = some (.slice ao apl.length c) ∧ w'.cell? ⟨W.heap.size, 4, none⟩ = some (.int .i64 ano) ∧ w'.cell? ⟨W.heap.size, 5, none⟩ = some (.slice a1 anl.length c1)) ∧ (w'.cell? ⟨(W.heap.size + 1), 0, none⟩ = some (.int .i64 bsc) ∧ w'.cell? ⟨(W.heap.size + 1), 1, none⟩ = some (.int .u64 (bze : Int)) ∧ w'.cell? ⟨(W.heap.size + 1), 2, none⟩ = some (.int .i64 bpo) ∧ w'.cell? ⟨(W.heap.size + 1), 3, none⟩ = some (.slice bo bpl.length d) ∧ w'.cell? ⟨(W.heap.size + 1), 4, none⟩ = some (.int .i64 bno) ∧ w'.cell? ⟨(W.heap.size + 1), 5, none⟩ = some (.slice b1 bnl.length d1))) wx143) := Lib.hid ⟨(HVA.out.on KDx143.out).box.c, (HVB.out.on KDx143.out).box.c⟩
              go_wp2
              refine hK.out _ _ (HSSx143.out) ?_
              clear hK K
              try simp only [Act.put, List.getElem_toArray, List.getElem_cons_succ, List.getElem_cons_zero, List.setIfInBounds_toArray, List.set_cons_zero, List.set_cons_succ]
              refine AnyBut.one (i := 5) (by kernel_rfl) rfl (fun K hK => ?_)
              go_simp
              have hka := (Kept.refl (fun _ => False) wx143).alloc (.cells #[.int .i64 0, .int .u64 0, .int .i64 0, .slice none 0 0, .int .i64 0, .slice none 0 0] 27)
              have KDx1435 := Lib.hid (KDx143.out.trans hka)
              have B5x1435 := Lib.hid (hist_boxed wx143 zeroH (.slice none 0 0) (.slice none 0 0))
              have HQ5 := Lib.hid (show w3.heap.size ≤ wx143.heap.size from KDx143.out.size)
              have HNE := Lib.hid (show q4 ≠ wx143.heap.size from fun e => by have := (Array.getElem?_eq_some_iff.1 B4x143.out).1; omega)
              have P1x1435 := Lib.hid (P1x143.out.on hka)
              have Q1x1435 := Lib.hid (Q1x143.out.on hka)
              have P3x1435 := Lib.hid (P3x143.out.on hka)
              have Q3x1435 := Lib.hid (Q3x143.out.on hka)
              have B4x1435 := Lib.hid (B4x143.out.same hka (fun x => x))
              unfold zeroH at B5x1435
              simp only at B5x1435
              obtain ⟨wx1435, hw⟩ : ∃ w', w' = wx143.alloc (.cells #[.int .i64 0, .int .u64 0, .int .i64 0, .slice none 0 0, .int .i64 0, .slice none 0 0] 27) := ⟨_, rfl⟩
              obtain ⟨q5, hq⟩ : ∃ x, x = wx143.heap.size := ⟨_, rfl⟩
              rw [show (wx143.alloc (.cells #[.int .i64 0, .int .u64 ((0 : Nat) : Int), .int .i64 0, .slice none 0 0, .int .i64 0, .slice none 0 0] 27)) = wx1435 from hw.symm] at B5x1435
              rw [← hw] at KDx1435 P1x1435 Q1x1435 P3x1435 Q3x1435 B4x1435 ⊢
              rw [← hq] at B5x1435 HQ5 HNE ⊢
              clear hw hq hka
              have HSSx1435 : Hid ((fun w' => (w'.cell? ⟨W.heap.size, 0, none⟩ = some (.int .i64 asc) ∧ w'.cell? ⟨W.heap.size, 1, none⟩ = some (.int .u64 (aze : Int)) ∧ w'.cell? ⟨W.heap.size, 2, none⟩ = some (.int .i64 apo) ∧ w'.cell? ⟨W.heap.size, 3, none⟩ = some (.slice ao apl.length c) ∧ w'.cell? ⟨W.heap.size, 4, none⟩ = some (.int .i64 ano) ∧ w'.cell? ⟨W.heap.size, 5, none⟩ = some (.slice a1 anl.length c1)) ∧ (w'.cell? ⟨(W.heap.size + 1), 0, none⟩ = some (.int .i64 bsc) ∧ w'.cell? ⟨(W.heap.size + 1), 1, none⟩ = some (.int .u64 (bze : Int)) ∧ w'.cell? ⟨(W.heap.size + 1), 2, none⟩ = some (.int .i64 bpo) ∧ w'.cell? ⟨(W.heap.size + 1), 3, none⟩ = some (.slice bo bpl.length d) ∧ w'.cell? ⟨(W.heap.size + 1), 4, none⟩ = some (.int .i64 bno) ∧ w'.cell? ⟨(W.heap.size + 1), 5, none⟩ = some (.slice b1 bnl.length d1))) wx1435) := Lib.hid ⟨(HVA.out.on KDx1435.out).box.c, (HVB.out.on KDx1435.out).box.c⟩
              refine hK.out _ _ (HSSx1435.out) ?_
              clear hK K
              try simp only [Act.put, List.getElem_toArray, List.getElem_cons_succ, List.getElem_cons_zero, List.setIfInBounds_toArray, List.set_cons_zero, List.set_cons_succ]
              refine AnyBut.one (i := 6) (by kernel_rfl) rfl (fun K hK => ?_)
              obtain ⟨z0, z1, z2, z3, z4, z5⟩ := B4x1435.out.c
              have zf := B4x1435.out.f
              simp only at z0 z1 z2 z4
              go_simp
              go_wp2
              have V4x14356 := Lib.hid (B4x1435.out.set ⟨asc, aze, apo, apl, ano, anl⟩ (.slice pa1 (uvals apl).length pc1) (.slice na1 (uvals anl).length nc1))
              have KDx14356 := Lib.hid (KDx1435.out.newer (set6_kept wx1435 q4 (.int .i64 asc) (.int .u64 (aze : Int)) (.int .i64 apo) (.slice pa1 (uvals apl).length pc1) (.int .i64 ano) (.slice na1 (uvals anl).length nc1)) (fun k e => by have := HQ4.out; omega))
              have P1x14356 := Lib.hid (P1x1435.out.set6 B4x1435.out HQ4.out (.int .i64 asc) (.int .u64 (aze : Int)) (.int .i64 apo) (.slice pa1 (uvals apl).length pc1) (.int .i64 ano) (.slice na1 (uvals anl).length nc1))
              have Q1x14356 := Lib.hid (Q1x1435.out.set6 B4x1435.out HQ4.out (.int .i64 asc) (.int .u64 (aze : Int)) (.int .i64 apo) (.slice pa1 (uvals apl).length pc1) (.int .i64 ano) (.slice na1 (uvals anl).length nc1))
              have P3x14356 := Lib.hid (P3x1435.out.set6 B4x1435.out HQ4.out (.int .i64 asc) (.int .u64 (aze : Int)) (.int .i64 apo) (.slice pa1 (uvals apl).length pc1) (.int .i64 ano) (.slice na1 (uvals anl).length nc1))
              have Q3x14356 := Lib.hid (Q3x1435.out.set6 B4x1435.out HQ4.out (.int .i64 asc) (.int .u64 (aze : Int)) (.int .i64 apo) (.slice pa1 (uvals apl).length pc1) (.int .i64 ano) (.slice na1 (uvals anl).length nc1))
              have B5x14356 := Lib.hid (B5x1435.out.same (set6_kept wx1435 q4 (.int .i64 asc) (.int .u64 (aze : Int)) (.int .i64 apo) (.slice pa1 (uvals apl).length pc1) (.int .i64 ano) (.slice na1 (uvals anl).length nc1)) (fun e => by have := HNE.out; omega))
              simp only at V4x14356
              obtain ⟨wx14356, hw⟩ : ∃ w', w' = set6 wx1435 q4 (.int .i64 asc) (.int .u64 (aze : Int)) (.int .i64 apo) (.slice pa1 (uvals apl).length pc1) (.int .i64 ano) (.slice na1 (uvals anl).length nc1) := ⟨_, rfl⟩
              rw [← hw] at V4x14356 KDx14356 P1x14356 Q1x14356 P3x14356 Q3x14356 B5x14356
              unfold set6 at hw
              rw [← hw]
              clear hw z0 z1 z2 z3 z4 z5 zf
              have HSSx14356 : Hid ((fun w' => (w'.cell? ⟨W.heap.size, 0, none⟩ = some (.int .i64 asc) ∧ w'.cell? ⟨W.heap.size, 1, none⟩ = some (.int .u64 (aze : Int)) ∧ w'.cell? ⟨W.heap.size, 2, none⟩ = some (.int .i64 apo) ∧ w'.cell? ⟨W.heap.size, 3, none⟩ = some (.slice ao apl.length c) ∧ w'.cell? ⟨W.heap.size, 4, none⟩ = some (.int .i64 ano) ∧ w'.cell? ⟨W.heap.size, 5, none⟩ = some (.slice a1 anl.length c1)) ∧ (w'.cell? ⟨(W.heap.size + 1), 0, none⟩ = some (.int .i64 bsc) ∧ w'.cell? ⟨(W.heap.size + 1), 1, none⟩ = some (.int .u64 (bze : Int)) ∧ w'.cell? ⟨(W.heap.size + 1), 2, none⟩ = some (.int .i64 bpo) ∧ w'.cell? ⟨(W.heap.size + 1), 3, none⟩ = some (.slice bo bpl.length d) ∧ w'.cell? ⟨(W.heap.size + 1), 4, none⟩ = some (.int .i64 bno) ∧ w'.cell? ⟨(W.heap.size + 1), 5, none⟩ = some (.slice b1 bnl.length d1))) wx14356) := Lib.hid ⟨(HVA.out.on KDx14356.out).box.c, (HVB.out.on KDx14356.out).box.c⟩
              refine hK.out _ _ (HSSx14356.out) ?_
              clear hK K
              try simp only [Act.put, List.getElem_toArray, List.getElem_cons_succ, List.getElem_cons_zero, List.setIfInBounds_toArray, List.set_cons_zero, List.set_cons_succ]
              refine AnyBut.one (i := 7) (by kernel_rfl) rfl (fun K hK => ?_)
              obtain ⟨z0, z1, z2, z3, z4, z5⟩ := B5x14356.out.c
              have zf := B5x14356.out.f
              simp only at z0 z1 z2 z4
              go_simp
              go_wp2
              have V5x143567 := Lib.hid (B5x14356.out.set ⟨bsc, bze, bpo, bpl, bno, bnl⟩ (.slice pa3 (uvals bpl).length pc3) (.slice na3 (uvals bnl).length nc3))
              have KDx143567 := Lib.hid (KDx14356.out.newer (set6_kept wx14356 q5 (.int .i64 bsc) (.int .u64 (bze : Int)) (.int .i64 bpo) (.slice pa3 (uvals bpl).length pc3) (.int .i64 bno) (.slice na3 (uvals bnl).length nc3)) (fun k e => by have := HQ5.out; omega))
              have P1x143567 := Lib.hid (P1x14356.out.set6 B5x14356.out HQ5.out (.int .i64 bsc) (.int .u64 (bze : Int)) (.int .i64 bpo) (.slice pa3 (uvals bpl).length pc3) (.int .i64 bno) (.slice na3 (uvals bnl).length nc3))
              have Q1x143567 := Lib.hid (Q1x14356.out.set6 B5x14356.out HQ5.out (.int .i64 bsc) (.int .u64 (bze : Int)) (.int .i64 bpo) (.slice pa3 (uvals bpl).length pc3) (.int .i64 bno) (.slice na3 (uvals bnl).length nc3))
              have P3x143567 := Lib.hid (P3x14356.out.set6 B5x14356.out HQ5.out (.int .i64 bsc) (.int .u64 (bze : Int)) (.int .i64 bpo) (.slice pa3 (uvals bpl).length pc3) (.int .i64 bno) (.slice na3 (uvals bnl).length nc3))
              have Q3x143567 := Lib.hid (Q3x14356.out.set6 B5x14356.out HQ5.out (.int .i64 bsc) (.int .u64 (bze : Int)) (.int .i64 bpo) (.slice pa3 (uvals bpl).length pc3) (.int .i64 bno) (.slice na3 (uvals bnl).length nc3))
              have V4x143567 := Lib.hid (V4x14356.out.same (set6_kept wx14356 q5 (.int .i64 bsc) (.int .u64 (bze : Int)) (.int .i64 bpo) (.slice pa3 (uvals bpl).length pc3) (.int .i64 bno) (.slice na3 (uvals bnl).length nc3)) (fun e => by have := HNE.out; omega))
              simp only at V5x143567
              obtain ⟨wx143567, hw⟩ : ∃ w', w' = set6 wx14356 q5 (.int .i64 bsc) (.int .u64 (bze : Int)) (.int .i64 bpo) (.slice pa3 (uvals bpl).length pc3) (.int .i64 bno) (.slice na3 (uvals bnl).length nc3) := ⟨_, rfl⟩
              rw [← hw] at V5x143567 KDx143567 P1x143567 Q1x143567 P3x143567 Q3x143567 V4x143567
              unfold set6 at hw
              rw [← hw]
              clear hw z0 z1 z2 z3 z4 z5 zf
              have HSSx143567 : Hid ((fun w' => (w'.cell? ⟨W.heap.size, 0, none⟩ = some (.int .i64 asc) ∧ w'.cell? ⟨W.heap.size, 1, none⟩ = some (.int .u64 (aze : Int)) ∧ w'.cell? ⟨W.heap.size, 2, none⟩ = some (.int .i64 apo) ∧ w'.cell? ⟨W.heap.size, 3, none⟩ = some (.slice ao apl.length c) ∧ w'.cell? ⟨W.heap.size, 4, none⟩ = some (.int .i64 ano) ∧ w'.cell? ⟨W.heap.size, 5, none⟩ = some (.slice a1 anl.length c1)) ∧ (w'.cell? ⟨(W.heap.size + 1), 0, none⟩ = some (.int .i64 bsc) ∧ w'.cell? ⟨(W.heap.size + 1), 1, none⟩ = some (.int .u64 (bze : Int)) ∧ w'.cell? ⟨(W.heap.size + 1), 2, none⟩ = some (.int .i64 bpo) ∧ w'.cell? ⟨(W.heap.size + 1), 3, none⟩ = some (.slice bo bpl.length d) ∧ w'.cell? ⟨(W.heap.size + 1), 4, none⟩ = some (.int .i64 bno) ∧ w'.cell? ⟨(W.heap.size + 1), 5, none⟩ = some (.slice b1 bnl.length d1))) wx143567) := Lib.hid ⟨(HVA.out.on KDx143567.out).box.c, (HVB.out.on KDx143567.out).box.c⟩
              refine hK.out _ _ (HSSx143567.out) ?_
              clear hK K
              try simp only [Act.put, List.getElem_toArray, List.getElem_cons_succ, List.getElem_cons_zero, List.setIfInBounds_toArray, List.set_cons_zero, List.set_cons_succ]
              refine AnyBut.done (by kernel_rfl) ?_
              go_wp2
              go_meet
              exact ⟨q4, q5, _, _, _, _, rfl, rfl, ⟨V4x143567.out, P1x143567.out.at_, Q1x143567.out.at_⟩, ⟨V5x143567.out, P3x143567.out.at_, Q3x143567.out.at_⟩, KDx143567.out⟩
            · go_simp
              have hka := (Kept.refl (fun _ => False) wx14).alloc (.cells #[.int .i64 0, .int .u64 0, .int .i64 0, .slice none 0 0, .int .i64 0, .slice none 0 0] 27)
              have KDx145 := Lib.hid (KDx14.out.trans hka)
              have B5x145 := Lib.hid (hist_boxed wx14 zeroH (.slice none 0 0) (.slice none 0 0))
              have HQ5 := Lib.hid (show w3.heap.size ≤ wx14.heap.size from KDx14.out.size)
              have HNE := Lib.hid (show q4 ≠ wx14.heap.size from fun e => by have := (Array.getElem?_eq_some_iff.1 B4x14.out).1; omega)
              have P1x145 := Lib.hid (P1x14.out.on hka)
              have Q1x145 := Lib.hid (Q1x14.out.on hka)
              have B4x145 := Lib.hid (B4x14.out.same hka (fun x => x))
              unfold zeroH at B5x145
              simp only at B5x145
              obtain ⟨wx145, hw⟩ : ∃ w', w' = wx14.alloc (.cells #[.int .i64 0, .int .u64 0, .int .i64 0, .slice none 0 0, .int .i64 0, .slice none 0 0] 27) := ⟨_, rfl⟩
              obtain ⟨q5, hq⟩ : ∃ x, x = wx14.heap.size := ⟨_, rfl⟩
              rw [show (wx14.alloc (.cells #[.int .i64 0, .int .u64 ((0 : Nat) : Int), .int .i64 0, .slice none 0 0, .int .i64 0, .slice none 0 0] 27)) = wx145 from hw.symm] at B5x145
              rw [← hw] at KDx145 P1x145 Q1x145 B4x145 ⊢
              rw [← hq] at B5x145 HQ5 HNE ⊢
              clear hw hq hka
              have HSSx145 : Hid ((fun w' => (w'.cell? ⟨W.heap.size, 0, none⟩ = some (.int .i64 asc) ∧ w'.cell? ⟨W.heap.size, 1, none⟩ = some (.int .u64 (aze : Int)) ∧ w'.cell? ⟨W.heap.size, 2, none⟩ = some (.int .i64 apo) ∧ w'.cell? ⟨W.heap.size, 3, none⟩ = some (.slice ao apl.length c) ∧ w'.cell? ⟨W.heap.size, 4, none⟩ = some (.int .i64 ano) ∧ w'.cell? ⟨W.heap.size, 5, none⟩ = some (.slice a1 anl.length c1)) ∧ (w'.cell? ⟨(W.heap.size + 1), 0, none⟩ = some (.int .i64 bsc) ∧ w'.cell? ⟨(W.heap.size + 1), 1, none⟩ = some (.int .u64 (bze : Int)) ∧ w'.cell? ⟨(W.heap.size + 1), 2, none⟩ = some (.int .i64 bpo) ∧ w'.cell? ⟨(W.heap.size + 1), 3, none⟩ = some (.slice bo bpl.length d) ∧ w'.cell? ⟨(W.heap.size + 1), 4, none⟩ = some (.int .i64 bno) ∧ w'.cell? ⟨(W.heap.size + 1), 5, none⟩ = some (.slice b1 bnl.length d1))) wx145) := Lib.hid ⟨(HVA.out.on KDx145.out).box.c, (HVB.out.on KDx145.out).box.c⟩
              refine hK.out _ _ (HSSx145.out) ?_
              clear hK K
              try simp only [Act.put, List.getElem_toArray, List.getElem_cons_succ, List.getElem_cons_zero, List.setIfInBounds_toArray, List.set_cons_zero, List.set_cons_succ]
              refine AnyBut.one (i := 3) (by kernel_rfl) rfl (fun K hK => ?_)
              go_simp
              go_wp2_with fail
              refine (HCB.out _ (HVB.out.on KDx145.out).at_).mono ?_
              rintro e wx1453 ⟨pv, nv, rfl, m1, m2⟩
              obtain ⟨pa3, pc3, rfl⟩ := m1.slice
              obtain ⟨na3, nc3, rfl⟩ := m2.slice
              have KDx1453 := Lib.hid (KDx145.out.trans m1.kept)
              have P3x1453 := Lib.hid (m1.down KDx145.out)
              have Q3x1453 := Lib.hid (m2.down KDx145.out)
              have P1x1453 := Lib.hid (P1x145.out.on m1.kept)
              have Q1x1453 := Lib.hid (Q1x145.out.on m1.kept)
              have B4x1453 := Lib.hid (B4x145.out.same m1.kept (fun x => x))
              have B5x1453 := Lib.hid (B5x145.out.same m1.kept (fun x => x))
              clear m1 m2
              have HSSx1453 : Hid ((fun w' => (w'.cell? ⟨W.heap.size, 0, none⟩ = some (.int .i64 asc) ∧ w'.cell? ⟨W.heap.size, 1, none⟩ = some (.int .u64 (aze : Int)) ∧ w'.cell? ⟨W.heap.size, 2, none⟩ = some (.int .i64 apo) ∧ w'.cell? ⟨W.heap.size, 3, none⟩ = some (.slice ao apl.length c) ∧ w'.cell? ⟨W.heap.size, 4, none⟩ = some (.int .i64 ano) ∧ w'.cell? ⟨W.heap.size, 5, none⟩ = some (.slice a1 anl.length c1)) ∧ (w'.cell? ⟨(W.heap.size + 1), 0, none⟩ = some (.int .i64 bsc) ∧ w'.cell? ⟨(W.heap.size + 1), 1, none⟩ = some (.int .u64 (bze : Int)) ∧ w'.cell? ⟨(W.heap.size + 1), 2, none⟩ = some (.int .i64 bpo) ∧ w'.cell? ⟨(W.heap.size + 1), 3, none⟩ = some (.slice bo bpl.length d) ∧ w'.cell? ⟨(W.heap.size + 1), 4, none⟩ = some (.int .i64 bno) ∧ w'.cell? ⟨(W.heap.size + 1), 5, none⟩ = some (.slice b1 bnl.length d1))) wx1453) := Lib.hid ⟨(HVA.out.on KDx1453.out).box.c, (HVB.out.on KDx1453.out).box.c⟩
              go_wp2
              refine hK.out _ _ (HSSx1453.out) ?_
              clear hK K
              try simp only [Act.put, List.getElem_toArray, List.getElem_cons_succ, List.getElem_cons_zero, List.setIfInBounds_toArray, List.set_cons_zero, List.set_cons_succ]
              refine AnyBut.one (i := 6) (by kernel_rfl) rfl (fun K hK => ?_)
              obtain ⟨z0, z1, z2, z3, z4, z5⟩ := B4x1453.out.c
              have zf := B4x1453.out.f
              simp only at z0 z1 z2 z4
              go_simp
              go_wp2
              have V4x14536 := Lib.hid (B4x1453.out.set ⟨asc, aze, apo, apl, ano, anl⟩ (.slice pa1 (uvals apl).length pc1) (.slice na1 (uvals anl).length nc1))
              have KDx14536 := Lib.hid (KDx1453.out.newer (set6_kept wx1453 q4 (.int .i64 asc) (.int .u64 (aze : Int)) (.int .i64 apo) (.slice pa1 (uvals apl).length pc1) (.int .i64 ano) (.slice na1 (uvals anl).length nc1)) (fun k e => by have := HQ4.out; omega))
              have P1x14536 := Lib.hid (P1x1453.out.set6 B4x1453.out HQ4.out (.int .i64 asc) (.int .u64 (aze : Int)) (.int .i64 apo) (.slice pa1 (uvals apl).length pc1) (.int .i64 ano) (.slice na1 (uvals anl).length nc1))
              have Q1x14536 := Lib.hid (Q1x1453.out.set6 B4x1453.out HQ4.out (.int .i64 asc) (.int .u64 (aze : Int)) (.int .i64 apo) (.slice pa1 (uvals apl).length pc1) (.int .i64 ano) (.slice na1 (uvals anl).length nc1))
              have P3x14536 := Lib.hid (P3x1453.out.set6 B4x1453.out HQ4.out (.int .i64 asc) (.int .u64 (aze : Int)) (.int .i64 apo) (.slice pa1 (uvals apl).length pc1) (.int .i64 ano) (.slice na1 (uvals anl).length nc1))
              have Q3x14536 := Lib.hid (Q3x1453.out.set6 B4x1453.out HQ4.out (.int .i64 asc) (.int .u64 (aze : Int)) (.int .i64 apo) (.slice pa1 (uvals apl).length pc1) (.int .i64 ano) (.slice na1 (uvals anl).length nc1))
              have B5x14536 := Lib.hid (B5x1453.out.same (set6_kept wx1453 q4 (.int .i64 asc) (.int .u64 (aze : Int)) (.int .i64 apo) (.slice pa1 (uvals apl).length pc1) (.int .i64 ano) (.slice na1 (uvals anl).length nc1)) (fun e => by have := HNE.out; omega))
              simp only at V4x14536
              obtain ⟨wx14536, hw⟩ : ∃ w', w' = set6 wx1453 q4 (.int .i64 asc) (.int .u64 (aze : Int)) (.int .i64 apo) (.slice pa1 (uvals apl).length pc1) (.int .i64 ano) (.slice na1 (uvals anl).length nc1) := ⟨_, rfl⟩
              rw [← hw] at V4x14536 KDx14536 P1x14536 Q1x14536 P3x14536 Q3x14536 B5x14536
              unfold set6 at hw
              rw [← hw]
              clear hw z0 z1 z2 z3 z4 z5 zf
              have HSSx14536 : Hid ((fun w' => (w'.cell? ⟨W.heap.size, 0, none⟩ = some (.int .i64 asc) ∧ w'.cell? ⟨W.heap.size, 1, none⟩ = some (.int .u64 (aze : Int)) ∧ w'.cell? ⟨W.heap.size, 2, none⟩ = some (.int .i64 apo) ∧ w'.cell? ⟨W.heap.size, 3, none⟩ = some (.slice ao apl.length c) ∧ w'.cell? ⟨W.heap.size, 4, none⟩ = some (.int .i64 ano) ∧ w'.cell? ⟨W.heap.size, 5, none⟩ = some (.slice a1 anl.length c1)) ∧ (w'.cell? ⟨(W.heap.size + 1), 0, none⟩ = some (.int .i64 bsc) ∧ w'.cell? ⟨(W.heap.size + 1), 1, none⟩ = some (.int .u64 (bze : Int)) ∧ w'.cell? ⟨(W.heap.size + 1), 2, none⟩ = some (.int .i64 bpo) ∧ w'.cell? ⟨(W.heap.size + 1), 3, none⟩ = some (.slice bo bpl.length d) ∧ w'.cell? ⟨(W.heap.size + 1), 4, none⟩ = some (.int .i64 bno) ∧ w'.cell? ⟨(W.heap.size + 1), 5, none⟩ = some (.slice b1 bnl.length d1))) wx14536) := Lib.hid ⟨(HVA.out.on KDx14536.out).box.c, (HVB.out.on KDx14536.out).box.c⟩
              refine hK.out _ _ (HSSx14536.out) ?_
              clear hK K
              try simp only [Act.put, List.getElem_toArray, List.getElem_cons_succ, List.getElem_cons_zero, List.setIfInBounds_toArray, List.set_cons_zero, List.set_cons_succ]
              refine AnyBut.one (i := 7) (by kernel_rfl) rfl (fun K hK => ?_)
              obtain ⟨z0, z1, z2, z3, z4, z5⟩ := B5x14536.out.c
              have zf := B5x14536.out.f
              simp only at z0 z1 z2 z4
              go_simp
              go_wp2
              have V5x145367 := Lib.hid (B5x14536.out.set ⟨bsc, bze, bpo, bpl, bno, bnl⟩ (.slice pa3 (uvals bpl).length pc3) (.slice na3 (uvals bnl).length nc3))
              have KDx145367 := Lib.hid (KDx14536.out.newer (set6_kept wx14536 q5 (.int .i64 bsc) (.int .u64 (bze : Int)) (.int .i64 bpo) (.slice pa3 (uvals bpl).length pc3) (.int .i64 bno) (.slice na3 (uvals bnl).length nc3)) (fun k e => by have := HQ5.out; omega))
              have P1x145367 := Lib.hid (P1x14536.out.set6 B5x14536.out HQ5.out (.int .i64 bsc) (.int .u64 (bze : Int)) (.int .i64 bpo) (.slice pa3 (uvals bpl).length pc3) (.int .i64 bno) (.slice na3 (uvals bnl).length nc3))
              have Q1x145367 := Lib.hid (Q1x14536.out.set6 B5x14536.out HQ5.out (.int .i64 bsc) (.int .u64 (bze : Int)) (.int .i64 bpo) (.slice pa3 (uvals bpl).length pc3) (.int .i64 bno) (.slice na3 (uvals bnl).length nc3))
              have P3x145367 := Lib.hid (P3x14536.out.set6 B5x14536.out HQ5.out (.int .i64 bsc) (.int .u64 (bze : Int)) (.int .i64 bpo) (.slice pa3 (uvals bpl).length pc3) (.int .i64 bno) (.slice na3 (uvals bnl).length nc3))
              have Q3x145367 := Lib.hid (Q3x14536.out.set6 B5x14536.out HQ5.out (.int .i64 bsc) (.int .u64 (bze : Int)) (.int .i64 bpo) (.slice pa3 (uvals bpl).length pc3) (.int .i64 bno) (.slice na3 (uvals bnl).length nc3))
              have V4x145367 := Lib.hid (V4x14536.out.same (set6_kept wx14536 q5 (.int .i64 bsc) (.int .u64 (bze : Int)) (.int .i64 bpo) (.slice pa3 (uvals bpl).length pc3) (.int .i64 bno) (.slice na3 (uvals bnl).length nc3)) (fun e => by have := HNE.out; omega))
              simp only at V5x145367
              obtain ⟨wx145367, hw⟩ : ∃ w', w' = set6 wx14536 q5 (.int .i64 bsc) (.int .u64 (bze : Int)) (.int .i64 bpo) (.slice pa3 (uvals bpl).length pc3) (.int .i64 bno) (.slice na3 (uvals bnl).length nc3) := ⟨_, rfl⟩
              rw [← hw] at V5x145367 KDx145367 P1x145367 Q1x145367 P3x145367 Q3x145367 V4x145367
              unfold set6 at hw
              rw [← hw]
              clear hw z0 z1 z2 z3 z4 z5 zf
              have HSSx145367 : Hid ((fun w' => (w'.cell? ⟨W.heap.size, 0, none⟩ = some (.int .i64 asc) ∧ w'.cell? ⟨W.heap.size, 1, none⟩ = some (.int .u64 (aze : Int)) ∧ w'.cell? ⟨W.heap.size, 2, none⟩ = some (.int .i64 apo) ∧ w'.cell? ⟨W.heap.size, 3, none⟩ = some (.slice ao apl.length c) ∧ w'.cell? ⟨W.heap.size, 4, none⟩ = some (.int .i64 ano) ∧ w'.cell? ⟨W.heap.size, 5, none⟩ = some (.slice a1 anl.length c1)) ∧ (w'.cell? ⟨(W.heap.size + 1), 0, none⟩ = some (.int .i64 bsc) ∧ w'.cell? ⟨(W.heap.size + 1), 1, none⟩ = some (.int .u64 (bze : Int)) ∧ w'.cell? ⟨(W.heap.size + 1), 2, none⟩ = some (.int .i64 bpo) ∧ w'.cell? ⟨(W.heap.size + 1), 3, none⟩ = some (.slice bo bpl.length d) ∧ w'.cell? ⟨(W.heap.size + 1), 4, none⟩ = some (.int .i64 bno) ∧ w'.cell? ⟨(W.heap.size + 1), 5, none⟩ = some (.slice b1 bnl.length d1))) wx145367) := Lib.hid ⟨(HVA.out.on KDx145367.out).box.c, (HVB.out.on KDx145367.out).box.c⟩
              refine hK.out _ _ (HSSx145367.out) ?_
              clear hK K
              try simp only [Act.put, List.getElem_toArray, List.getElem_cons_succ, List.getElem_cons_zero, List.setIfInBounds_toArray, List.set_cons_zero, List.set_cons_succ]
              refine AnyBut.done (by kernel_rfl) ?_
              go_wp2
              go_meet
              exact ⟨q4, q5, _, _, _, _, rfl, rfl, ⟨V4x145367.out, P1x145367.out.at_, Q1x145367.out.at_⟩, ⟨V5x145367.out, P3x145367.out.at_, Q3x145367.out.at_⟩, KDx145367.out⟩
          · go_simp
            have hka := (Kept.refl (fun _ => False) wx1).alloc (.cells #[.int .i64 0, .int .u64 0, .int .i64 0, .slice none 0 0, .int .i64 0, .slice none 0 0] 27)
            have KDx15 := Lib.hid (KDx1.out.trans hka)
            have B5x15 := Lib.hid (hist_boxed wx1 zeroH (.slice none 0 0) (.slice none 0 0))
            have HQ5 := Lib.hid (show w3.heap.size ≤ wx1.heap.size from KDx1.out.size)
            have P1x15 := Lib.hid (P1x1.out.on hka)
            have Q1x15 := Lib.hid (Q1x1.out.on hka)
            unfold zeroH at B5x15
            simp only at B5x15
            obtain ⟨wx15, hw⟩ : ∃ w', w' = wx1.alloc (.cells #[.int .i64 0, .int .u64 0, .int .i64 0, .slice none 0 0, .int .i64 0, .slice none 0 0] 27) := ⟨_, rfl⟩
            obtain ⟨q5, hq⟩ : ∃ x, x = wx1.heap.size := ⟨_, rfl⟩
            rw [show (wx1.alloc (.cells #[.int .i64 0, .int .u64 ((0 : Nat) : Int), .int .i64 0, .slice none 0 0, .int .i64 0, .slice none 0 0] 27)) = wx15 from hw.symm] at B5x15
            rw [← hw] at KDx15 P1x15 Q1x15 ⊢
            rw [← hq] at B5x15 HQ5  ⊢
            clear hw hq hka
            have HSSx15 : Hid ((fun w' => (w'.cell? ⟨W.heap.size, 0, none⟩ = some (.int .i64 asc) ∧ w'.cell? ⟨W.heap.size, 1, none⟩ = some (.int .u64 (aze : Int)) ∧ w'.cell? ⟨W.heap.size, 2, none⟩ = some (.int .i64 apo) ∧ w'.cell? ⟨W.heap.size, 3, none⟩ = some (.slice ao apl.length c) ∧ w'.cell? ⟨W.heap.size, 4, none⟩ = some (.int .i64 ano) ∧ w'.cell? ⟨W.heap.size, 5, none⟩ = some (.slice a1 anl.length c1)) ∧ (w'.cell? ⟨(W.heap.size + 1), 0, none⟩ = some (.int .i64 bsc) ∧ w'.cell? ⟨(W.heap.size + 1), 1, none⟩ = some (.int .u64 (bze : Int)) ∧ w'.cell? ⟨(W.heap.size + 1), 2, none⟩ = some (.int .i64 bpo) ∧ w'.cell? ⟨(W.heap.size + 1), 3, none⟩ = some (.slice bo bpl.length d) ∧ w'.cell? ⟨(W.heap.size + 1), 4, none⟩ = some (.int .i64 bno) ∧ w'.cell? ⟨(W.heap.size + 1), 5, none⟩ = some (.slice b1 bnl.length d1))) wx15) := Lib.hid ⟨(HVA.out.on KDx15.out).box.c, (HVB.out.on KDx15.out).box.c⟩
            refine hK.out _ _ (HSSx15.out) ?_
            clear hK K
            try simp only [Act.put, List.getElem_toArray, List.getElem_cons_succ, List.getElem_cons_zero, List.setIfInBounds_toArray, List.set_cons_zero, List.set_cons_succ]
            refine AnyBut.two (i := 3) (j := 4) (by kernel_rfl) rfl rfl (fun K hK => ?_) (fun K hK => ?_)
            · go_simp
              go_wp2_with fail
              refine (HCB.out _ (HVB.out.on KDx15.out).at_).mono ?_
              rintro e wx153 ⟨pv, nv, rfl, m1, m2⟩
              obtain ⟨pa3, pc3, rfl⟩ := m1.slice
              obtain ⟨na3, nc3, rfl⟩ := m2.slice
              have KDx153 := Lib.hid (KDx15.out.trans m1.kept)
              have P3x153 := Lib.hid (m1.down KDx15.out)
              have Q3x153 := Lib.hid (m2.down KDx15.out)
              have P1x153 := Lib.hid (P1x15.out.on m1.kept)
              have Q1x153 := Lib.hid (Q1x15.out.on m1.kept)
              have B5x153 := Lib.hid (B5x15.out.same m1.kept (fun x => x))
              clear m1 m2
              have HSSx153 : Hid ((fun w' => (w'.cell? ⟨W.heap.size, 0, none⟩ = some (.int .i64 asc) ∧ w'.cell? ⟨W.heap.size, 1, none⟩ = some (.int .u64 (aze : Int)) ∧ w'.cell? ⟨W.heap.size, 2, none⟩ = some (.int .i64 apo) ∧ w'.cell? ⟨W.heap.size, 3, none⟩ = some (.slice ao apl.length c) ∧ w'.cell? ⟨W.heap.size, 4, none⟩ = some (.int .i64 ano) ∧ w'.cell? ⟨W.heap.size, 5, none⟩ = some (.slice a1 anl.length c1)) ∧ (w'.cell? ⟨(W.heap.size + 1), 0, none⟩ = some (.int .i64 bsc) ∧ w'.cell? ⟨(W.heap.size + 1), 1, none⟩ = some (.int .u64 (bze : Int)) ∧ w'.cell? ⟨(W.heap.size + 1), 2, none⟩ = some (.int .i64 bpo) ∧ w'.cell? ⟨(W.heap.size + 1), 3, none⟩ = some (.slice bo bpl.length d) ∧ w'.cell? ⟨(W.heap.size + 1), 4, none⟩ = some (.int .i64 bno) ∧ w'.cell? ⟨(W.heap.size + 1), 5, none⟩ = some (.slice b1 bnl.length d1))) wx153) := Lib.hid ⟨(HVA.out.on KDx153.out).box.c, (HVB.out.on KDx153.out).box.c⟩
              go_wp2
              refine hK.out _ _ (HSSx153.out) ?_
              clear hK K
              try simp only [Act.put, List.getElem_toArray, List.getElem_cons_succ, List.getElem_cons_zero, List.setIfInBounds_toArray, List.set_cons_zero, List.set_cons_succ]
              refine AnyBut.one (i := 4) (by kernel_rfl) rfl (fun K hK => ?_)
              go_simp
              have hka := (Kept.refl (fun _ => False) wx153).alloc (.cells #[.int .i64 0, .int .u64 0, .int .i64 0, .slice none 0 0, .int .i64 0, .slice none 0 0] 27)
              have KDx1534 := Lib.hid (KDx153.out.trans hka)
              have B4x1534 := Lib.hid (hist_boxed wx153 zeroH (.slice none 0 0) (.slice none 0 0))
              have HQ4 := Lib.hid (show w3.heap.size ≤ wx153.heap.size from KDx153.out.size)
              have HNE := Lib.hid (show q5 ≠ wx153.heap.size from fun e => by have := (Array.getElem?_eq_some_iff.1 B5x153.out).1; omega)
              have P1x1534 := Lib.hid (P1x153.out.on hka)
              have Q1x1534 := Lib.hid (Q1x153.out.on hka)
              have P3x1534 := Lib.hid (P3x153.out.on hka)
              have Q3x1534 := Lib.hid (Q3x153.out.on hka)
              have B5x1534 := Lib.hid (B5x153.out.same hka (fun x => x))
              unfold zeroH at B4x1534
              simp only at B4x1534
              obtain ⟨wx1534, hw⟩ : ∃ w', w' = wx153.alloc (.cells #[.int .i64 0, .int .u64 0, .int .i64 0, .slice none 0 0, .int .i64 0, .slice none 0 0] 27) := ⟨_, rfl⟩
              obtain ⟨q4, hq⟩ : ∃ x, x = wx153.heap.size := ⟨_, rfl⟩
              rw [show (wx153.alloc (.cells #[.int .i64 0, .int .u64 ((0 : Nat) : Int), .int .i64 0, .slice none 0 0, .int .i64 0, .slice none 0 0] 27)) = wx1534 from hw.symm] at B4x1534
              rw [← hw] at KDx1534 P1x1534 Q1x1534 P3x1534 Q3x1534 B5x1534 ⊢
              rw [← hq] at B4x1534 HQ4 HNE ⊢
              clear hw hq hka
              have HSSx1534 : Hid ((fun w' => (w'.cell? ⟨W.heap.size, 0, none⟩ = some (.int .i64 asc) ∧ w'.cell? ⟨W.heap.size, 1, none⟩ = some (.int .u64 (aze : Int)) ∧ w'.cell? ⟨W.heap.size, 2, none⟩ = some (.int .i64 apo) ∧ w'.cell? ⟨W.heap.size, 3, none⟩ = some (.slice ao apl.length c) ∧ w'.cell? ⟨W.heap.size, 4, none⟩ = some (.int .i64 ano) ∧ w'.cell? ⟨W.heap.size, 5, none⟩ = some (.slice a1 anl.length c1)) ∧ (w'.cell? ⟨(W.heap.size + 1), 0, none⟩ = some (.int .i64 bsc) ∧ w'.cell? ⟨(W.heap.size + 1), 1, none⟩ = some (.int .u64 (bze : Int)) ∧ w'.cell? ⟨(W.heap.size + 1), 2, none⟩ = some (.int .i64 bpo) ∧ w'.cell? ⟨(W.heap.size + 1), 3, none⟩ = some (.slice bo bpl.length d) ∧ w'.cell? ⟨(W.heap.size + 1), 4, none⟩ = some (.int .i64 bno) ∧ w'.cell? ⟨(W.heap.size + 1), 5, none⟩ = some (.slice b1 bnl.length d1))) wx1534) := Lib.hid ⟨(HVA.out.on KDx1534.out).box.c, (HVB.out.on KDx1534.out).box.c⟩
              refine hK.out _ _ (HSSx1534.out) ?_
              clear hK K
              try simp only [Act.put, List.getElem_toArray, List.getElem_cons_succ, List.getElem_cons_zero, List.setIfInBounds_toArray, List.set_cons_zero, List.set_cons_succ]
              refine AnyBut.one (i := 6) (by kernel_rfl) rfl (fun K hK => ?_)
              obtain ⟨z0, z1, z2, z3, z4, z5⟩ := B4x1534.out.c
              have zf := B4x1534.out.f
              simp only at z0 z1 z2 z4
              go_simp
              go_wp2
              have V4x15346 := Lib.hid (B4x1534.out.set ⟨asc, aze, apo, apl, ano, anl⟩ (.slice pa1 (uvals apl).length pc1) (.slice na1 (uvals anl).length nc1))
              have KDx15346 := Lib.hid (KDx1534.out.newer (set6_kept wx1534 q4 (.int .i64 asc) (.int .u64 (aze : Int)) (.int .i64 apo) (.slice pa1 (uvals apl).length pc1) (.int .i64 ano) (.slice na1 (uvals anl).length nc1)) (fun k e => by have := HQ4.out; omega))
              have P1x15346 := Lib.hid (P1x1534.out.set6 B4x1534.out HQ4.out (.int .i64 asc) (.int .u64 (aze : Int)) (.int .i64 apo) (.slice pa1 (uvals apl).length pc1) (.int .i64 ano) (.slice na1 (uvals anl).length nc1))
              have Q1x15346 := Lib.hid (Q1x1534.out.set6 B4x1534.out HQ4.out (.int .i64 asc) (.int .u64 (aze : Int)) (.int .i64 apo) (.slice pa1 (uvals apl).length pc1) (.int .i64 ano) (.slice na1 (uvals anl).length nc1))
              have P3x15346 := Lib.hid (P3x1534.out.set6 B4x1534.out HQ4.out (.int .i64 asc) (.int .u64 (aze : Int)) (.int .i64 apo) (.slice pa1 (uvals apl).length pc1) (.int .i64 ano) (.slice na1 (uvals anl).length nc1))
              have Q3x15346 := Lib.hid (Q3x1534.out.set6 B4x1534.out HQ4.out (.int .i64 asc) (.int .u64 (aze : Int)) (.int .i64 apo) (.slice pa1 (uvals apl).length pc1) (.int .i64 ano) (.slice na1 (uvals anl).length nc1))
              have B5x15346 := Lib.hid (B5x1534.out.same (set6_kept wx1534 q4 (.int .i64 asc) (.int .u64 (aze : Int)) (.int .i64 apo) (.slice pa1 (uvals apl).length pc1) (.int .i64 ano) (.slice na1 (uvals anl).length nc1)) (fun e => by have := HNE.out; omega))
              simp only at V4x15346
              obtain ⟨wx15346, hw⟩ : ∃ w', w' = set6 wx1534 q4 (.int .i64 asc) (.int .u64 (aze : Int)) (.int .i64 apo) (.slice pa1 (uvals apl).length pc1) (.int .i64 ano) (.slice na1 (uvals anl).length nc1) := ⟨_, rfl⟩
              rw [← hw] at V4x15346 KDx15346 P1x15346 Q1x15346 P3x15346 Q3x15346 B5x15346
              unfold set6 at hw
              rw [← hw]
              clear hw z0 z1 z2 z3 z4 z5 zf
              have HSSx15346 : Hid ((fun w' => (w'.cell? ⟨W.heap.size, 0, none⟩ = some (.int .i64 asc) ∧ w'.cell? ⟨W.heap.size, 1, none⟩ = some (.int .u64 (aze : Int)) ∧ w'.cell? ⟨W.heap.size, 2, none⟩ = some (.int .i64 apo) ∧ w'.cell? ⟨W.heap.size, 3, none⟩ = some (.slice ao apl.length c) ∧ w'.cell? ⟨W.heap.size, 4, none⟩ = some (.int .i64 ano) ∧ w'.cell? ⟨W.heap.size, 5, none⟩ = some (.slice a1 anl.length c1)) ∧ (w'.cell? ⟨(W.heap.size + 1), 0, none⟩ = some (.int .i64 bsc) ∧ w'.cell? ⟨(W.heap.size + 1), 1, none⟩ = some (.int .u64 (bze : Int)) ∧ w'.cell? ⟨(W.heap.size + 1), 2, none⟩ = some (.int .i64 bpo) ∧ w'.cell? ⟨(W.heap.size + 1), 3, none⟩ = some (.slice bo bpl.length d) ∧ w'.cell? ⟨(W.heap.size + 1), 4, none⟩ = some (.int .i64 bno) ∧ w'.cell? ⟨(W.heap.size + 1), 5, none⟩ = some (.slice b1 bnl.length d1))) wx15346) := Lib.hid ⟨(HVA.out.on KDx15346.out).box.c, (HVB.out.on KDx15346.out).box.c⟩
              refine hK.out _ _ (HSSx15346.out) ?_
              clear hK K
              try simp only [Act.put, List.getElem_toArray, List.getElem_cons_succ, List.getElem_cons_zero, List.setIfInBounds_toArray, List.set_cons_zero, List.set_cons_succ]
              refine AnyBut.one (i := 7) (by kernel_rfl) rfl (fun K hK => ?_)
              obtain ⟨z0, z1, z2, z3, z4, z5⟩ := B5x15346.out.c
              have zf := B5x15346.out.f
              simp only at z0 z1 z2 z4
              go_simp
              go_wp2
              have V5x153467 := Lib.hid (B5x15346.out.set ⟨bsc, bze, bpo, bpl, bno, bnl⟩ (.slice pa3 (uvals bpl).length pc3) (.slice na3 (uvals bnl).length nc3))
              have KDx153467 := Lib.hid (KDx15346.out.newer (set6_kept wx15346 q5 (.int .i64 bsc) (.int .u64 (bze : Int)) (.int .i64 bpo) (.slice pa3 (uvals bpl).length pc3) (.int .i64 bno) (.slice na3 (uvals bnl).length nc3)) (fun k e => by have := HQ5.out; omega))
              have P1x153467 := Lib.hid (P1x15346.out.set6 B5x15346.out HQ5.out (.int .i64 bsc) (.int .u64 (bze : Int)) (.int .i64 bpo) (.slice pa3 (uvals bpl).length pc3) (.int .i64 bno) (.slice na3 (uvals bnl).length nc3))
              have Q1x153467 := Lib.hid (Q1x15346.out.set6 B5x15346.out HQ5.out (.int .i64 bsc) (.int .u64 (bze : Int)) (.int .i64 bpo) (.slice pa3 (uvals bpl).length pc3) (.int .i64 bno) (.slice na3 (uvals bnl).length nc3))
              have P3x153467 := Lib.hid (P3x15346.out.set6 B5x15346.out HQ5.out (.int .i64 bsc) (.int .u64 (bze : Int)) (.int .i64 bpo) (.slice pa3 (uvals bpl).length pc3) (.int .i64 bno) (.slice na3 (uvals bnl).length nc3))
              have Q3x153467 := Lib.hid (Q3x15346.out.set6 B5x15346.out HQ5.out (.int .i64 bsc) (.int .u64 (bze : Int)) (.int .i64 bpo) (.slice pa3 (uvals bpl).length pc3) (.int .i64 bno) (.slice na3 (uvals bnl).length nc3))
              have V4x153467 := Lib.hid (V4x15346.out.same (set6_kept wx15346 q5 (.int .i64 bsc) (.int .u64 (bze : Int)) (.int .i64 bpo) (.slice pa3 (uvals bpl).length pc3) (.int .i64 bno) (.slice na3 (uvals bnl).length nc3)) (fun e => by have := HNE.out; omega))
              simp only at V5x153467
              obtain ⟨wx153467, hw⟩ : ∃ w', w' = set6 wx15346 q5 (.int .i64 bsc) (.int .u64 (bze : Int)) (.int .i64 bpo) (.slice pa3 (uvals bpl).length pc3) (.int .i64 bno) (.slice na3 (uvals bnl).length nc3) := ⟨_, rfl⟩
              rw [← hw] at V5x153467 KDx153467 P1x153467 Q1x153467 P3x153467 Q3x153467 V4x153467
              unfold set6 at hw
              rw [← hw]
              clear hw z0 z1 z2 z3 z4 z5 zf
              have HSSx153467 : Hid ((fun w' => (w'.cell? ⟨W.heap.size, 0, none⟩ = some (.int .i64 asc) ∧ w'.cell? ⟨W.heap.size, 1, none⟩ = some (.int .u64 (aze : Int)) ∧ w'.cell? ⟨W.heap.size, 2, none⟩ = some (.int .i64 apo) ∧ w'.cell? ⟨W.heap.size, 3, none⟩ = some (.slice ao apl.length c) ∧ w'.cell? ⟨W.heap.size, 4, none⟩ = some (.int .i64 ano) ∧ w'.cell? ⟨W.heap.size, 5, none⟩ = some (.slice a1 anl.length c1)) ∧ (w'.cell? ⟨(W.heap.size + 1), 0, none⟩ = some (.int .i64 bsc) ∧ w'.cell? ⟨(W.heap.size + 1), 1, none⟩ = some (.int .u64 (bze : Int)) ∧ w'.cell? ⟨(W.heap.size + 1), 2, none⟩ = some (.int .i64 bpo) ∧ w'.cell? ⟨(W.heap.size + 1), 3, none⟩ = some (.slice bo bpl.length d) ∧ w'.cell? ⟨(W.heap.size + 1), 4, none⟩ = some (.int .i64 bno) ∧ w'.cell? ⟨(W.heap.size + 1), 5, none⟩ = some (.slice b1 bnl.length d1))) wx153467) := Lib.hid ⟨(HVA.out.on KDx153467.out).box.c, (HVB.out.on KDx153467.out).box.c⟩
              refine hK.out _ _ (HSSx153467.out) ?_
              clear hK K
              try simp only [Act.put, List.getElem_toArray, List.getElem_cons_succ, List.getElem_cons_zero, List.setIfInBounds_toArray, List.set_cons_zero, List.set_cons_succ]
              refine AnyBut.done (by kernel_rfl) ?_
              go_wp2
              go_meet
              exact ⟨q4, q5, _, _, _, _, rfl, rfl, ⟨V4x153467.out, P1x153467.out.at_, Q1x153467.out.at_⟩, ⟨V5x153467.out, P3x153467.out.at_, Q3x153467.out.at_⟩, KDx153467.out⟩
            · go_simp
              have hka := (Kept.refl (fun _ => False) wx15).alloc (.cells #[.int .i64 0, .int .u64 0, .int .i64 0, .slice none 0 0, .int .i64 0, .slice none 0 0] 27)
              have KDx154 := Lib.hid (KDx15.out.trans hka)
              have B4x154 := Lib.hid (hist_boxed wx15 zeroH (.slice none 0 0) (.slice none 0 0))
              have HQ4 := Lib.hid (show w3.heap.size ≤ wx15.heap.size from KDx15.out.size)
              have HNE := Lib.hid (show q5 ≠ wx15.heap.size from fun e => by have := (Array.getElem?_eq_some_iff.1 B5x15.out).1; omega)
              have P1x154 := Lib.hid (P1x15.out.on hka)
              have Q1x154 := Lib.hid (Q1x15.out.on hka)
              have B5x154 := Lib.hid (B5x15.out.same hka (fun x => x))
              unfold zeroH at B4x154
              simp only at B4x154
              obtain ⟨wx154, hw⟩ : ∃ w', w' = wx15.alloc (.cells #[.int .i64 0, .int .u64 0, .int .i64 0, .slice none 0 0, .int .i64 0, .slice none 0 0] 27) := ⟨_, rfl⟩
              obtain ⟨q4, hq⟩ : ∃ x, x = wx15.heap.size := ⟨_, rfl⟩
              rw [show (wx15.alloc (.cells #[.int .i64 0, .int .u64 ((0 : Nat) : Int), .int .i64 0, .slice none 0 0, .int .i64 0, .slice none 0 0] 27)) = wx154 from hw.symm] at B4x154
              rw [← hw] at KDx154 P1x154 Q1x154 B5x154 ⊢
              rw [← hq] at B4x154 HQ4 HNE ⊢
              clear hw hq hka
              have HSSx154 : Hid ((fun w' => (w'.cell? ⟨W.heap.size, 0, none⟩ = some (.int .i64 asc) ∧ w'.cell? ⟨W.heap.size, 1, none⟩ = some (.int .u64 (aze : Int)) ∧ w'.cell? ⟨W.heap.size, 2, none⟩ = some (.int .i64 apo) ∧ w'.cell? ⟨W.heap.size, 3, none⟩ = some (.slice ao apl.length c) ∧ w'.cell? ⟨W.heap.size, 4, none⟩ = some (.int .i64 ano) ∧ w'.cell? ⟨W.heap.size, 5, none⟩ = some (.slice a1 anl.length c1)) ∧ (w'.cell? ⟨(W.heap.size + 1), 0, none⟩ = some (.int .i64 bsc) ∧ w'.cell? ⟨(W.heap.size + 1), 1, none⟩ = some (.int .u64 (bze : Int)) ∧ w'.cell? ⟨(W.heap.size + 1), 2, none⟩ = some (.int .i64 bpo) ∧ w'.cell? ⟨(W.heap.size + 1), 3, none⟩ = some (.slice bo bpl.length d) ∧ w'.cell? ⟨(W.heap.size + 1), 4, none⟩ = some (.int .i64 bno) ∧ w'.cell? ⟨(W.heap.size + 1), 5, none⟩ = some (.slice b1 bnl.length d1))) wx154) := Lib.hid ⟨(HVA.out.on KDx154.out).box.c, (HVB.out.on KDx154.out).box.c⟩
              refine hK.out _ _ (HSSx154.out) ?_
              clear hK K
              try simp only [Act.put, List.getElem_toArray, List.getElem_cons_succ, List.getElem_cons_zero, List.setIfInBounds_toArray, List.set_cons_zero, List.set_cons_succ]
              refine AnyBut.one (i := 3) (by kernel_rfl) rfl (fun K hK => ?_)
              go_simp
              go_wp2_with fail
              refine (HCB.out _ (HVB.out.on KDx154.out).at_).mono ?_
              rintro e wx1543 ⟨pv, nv, rfl, m1, m2⟩
              obtain ⟨pa3, pc3, rfl⟩ := m1.slice
              obtain ⟨na3, nc3, rfl⟩ := m2.slice
              have KDx1543 := Lib.hid (KDx154.out.trans m1.kept)
              have P3x1543 := Lib.hid (m1.down KDx154.out)
              have Q3x1543 := Lib.hid (m2.down KDx154.out)
              have P1x1543 := Lib.hid (P1x154.out.on m1.kept)
              have Q1x1543 := Lib.hid (Q1x154.out.on m1.kept)
              have B4x1543 := Lib.hid (B4x154.out.same m1.kept (fun x => x))
              have B5x1543 := Lib.hid (B5x154.out.same m1.kept (fun x => x))
              clear m1 m2
              have HSSx1543 : Hid ((fun w' => (w'.cell? ⟨W.heap.size, 0, none⟩ = some (.int .i64 asc) ∧ w'.cell? ⟨W.heap.size, 1, none⟩ = some (.int .u64 (aze : Int)) ∧ w'.cell? ⟨W.heap.size, 2, none⟩ = some (.int .i64 apo) ∧ w'.cell? ⟨W.heap.size, 3, none⟩ = some (.slice ao apl.length c) ∧ w'.cell? ⟨W.heap.size, 4, none⟩ = some (.int .i64 ano) ∧ w'.cell? ⟨W.heap.size, 5, none⟩ = some (.slice a1 anl.length c1)) ∧ (w'.cell? ⟨(W.heap.size + 1), 0, none⟩ = some (.int .i64 bsc) ∧ w'.cell? ⟨(W.heap.size + 1), 1, none⟩ = some (.int .u64 (bze : Int)) ∧ w'.cell? ⟨(W.heap.size + 1), 2, none⟩ = some (.int .i64 bpo) ∧ w'.cell? ⟨(W.heap.size + 1), 3, none⟩ = some (.slice bo bpl.length d) ∧ w'.cell? ⟨(W.heap.size + 1), 4, none⟩ = some (.int .i64 bno) ∧ w'.cell? ⟨(W.heap.size + 1), 5, none⟩ = some (.slice b1 bnl.length d1))) wx1543) := Lib.hid ⟨(HVA.out.on KDx1543.out).box.c, (HVB.out.on KDx1543.out).box.c⟩
              go_wp2
              refine hK.out _ _ (HSSx1543.out) ?_
              clear hK K
              try simp only [Act.put, List.getElem_toArray, List.getElem_cons_succ, List.getElem_cons_zero, List.setIfInBounds_toArray, List.set_cons_zero, List.set_cons_succ]
              refine AnyBut.one (i := 6) (by kernel_rfl) rfl (fun K hK => ?_)
              obtain ⟨z0, z1, z2, z3, z4, z5⟩ := B4x1543.out.c
              have zf := B4x1543.out.f
              simp only at z0 z1 z2 z4
              go_simp
              go_wp2
              have V4x15436 := Lib.hid (B4x1543.out.set ⟨asc, aze, apo, apl, ano, anl⟩ (.slice pa1 (uvals apl).length pc1) (.slice na1 (uvals anl).length nc1))
              have KDx15436 := Lib.hid (KDx1543.out.newer (set6_kept wx1543 q4 (.int .i64 asc) (.int .u64 (aze : Int)) (.int .i64 apo) (.slice pa1 (uvals apl).length pc1) (.int .i64 ano) (.slice na1 (uvals anl).length nc1)) (fun k e => by have := HQ4.out; omega))
              have P1x15436 := Lib.hid (P1x1543.out.set6 B4x1543.out HQ4.out (.int .i64 asc) (.int .u64 (aze : Int)) (.int .i64 apo) (.slice pa1 (uvals apl).length pc1) (.int .i64 ano) (.slice na1 (uvals anl).length nc1))
              have Q1x15436 := Lib.hid (Q1x1543.out.set6 B4x1543.out HQ4.out (.int .i64 asc) (.int .u64 (aze : Int)) (.int .i64 apo) (.slice pa1 (uvals apl).length pc1) (.int .i64 ano) (.slice na1 (uvals anl).length nc1))
              have P3x15436 := Lib.hid (P3x1543.out.set6 B4x1543.out HQ4.out (.int .i64 asc) (.int .u64 (aze : Int)) (.int .i64 apo) (.slice pa1 (uvals apl).length pc1) (.int .i64 ano) (.slice na1 (uvals anl).length nc1))
              have Q3x15436 := Lib.hid (Q3x1543.out.set6 B4x1543.out HQ4.out (.int .i64 asc) (.int .u64 (aze : Int)) (.int .i64 apo) (.slice pa1 (uvals apl).length pc1) (.int .i64 ano) (.slice na1 (uvals anl).length nc1))
              have B5x15436 := Lib.hid (B5x1543.out.same (set6_kept wx1543 q4 (.int .i64 asc) (.int .u64 (aze : Int)) (.int .i64 apo) (.slice pa1 (uvals apl).length pc1) (.int .i64 ano) (.slice na1 (uvals anl).length nc1)) (fun e => by have := HNE.out; omega))
              simp only at V4x15436
              obtain ⟨wx15436, hw⟩ : ∃ w', w' = set6 wx1543 q4 (.int .i64 asc) (.int .u64 (aze : Int)) (.int .i64 apo) (.slice pa1 (uvals apl).length pc1) (.int .i64 ano) (.slice na1 (uvals anl).length nc1) := ⟨_, rfl⟩
              rw [← hw] at V4x15436 KDx15436 P1x15436 Q1x15436 P3x15436 Q3x15436 B5x15436
              unfold set6 at hw
              rw [← hw]
              clear hw z0 z1 z2 z3 z4 z5 zf
              have HSSx15436 : Hid ((fun w' => (w'.cell? ⟨W.heap.size, 0, none⟩ = some (.int .i64 asc) ∧ w'.cell? ⟨W.heap.size, 1, none⟩ = some (.int .u64 (aze : Int)) ∧ w'.cell? ⟨W.heap.size, 2, none⟩ = some (.int .i64 apo) ∧ w'.cell? ⟨W.heap.size, 3, none⟩ = some (.slice ao apl.length c) ∧ w'.cell? ⟨W.heap.size, 4, none⟩ = some (.int .i64 ano) ∧ w'.cell? ⟨W.heap.size, 5, none⟩ = some (.slice a1 anl.length c1)) ∧ (w'.cell? ⟨(W.heap.size + 1), 0, none⟩ = some (.int .i64 bsc) ∧ w'.cell? ⟨(W.heap.size + 1), 1, none⟩ = some (.int .u64 (bze : Int)) ∧ w'.cell? ⟨(W.heap.size + 1), 2, none⟩ = some (.int .i64 bpo) ∧ w'.cell? ⟨(W.heap.size + 1), 3, none⟩ = some (.slice bo bpl.length d) ∧ w'.cell? ⟨(W.heap.size + 1), 4, none⟩ = some (.int .i64 bno) ∧ w'.cell? ⟨(W.heap.size + 1), 5, none⟩ = some (.slice b1 bnl.length d1))) wx15436) := Lib.hid ⟨(HVA.out.on KDx15436.out).box.c, (HVB.out.on KDx15436.out).box.c⟩
              refine hK.out _ _ (HSSx15436.out) ?_
              clear hK K
              try simp only [Act.put, List.getElem_toArray, List.getElem_cons_succ, List.getElem_cons_zero, List.setIfInBounds_toArray, List.set_cons_zero, List.set_cons_succ]
              refine AnyBut.one (i := 7) (by kernel_rfl) rfl (fun K hK => ?_)
              obtain ⟨z0, z1, z2, z3, z4, z5⟩ := B5x15436.out.c
              have zf := B5x15436.out.f
              simp only at z0 z1 z2 z4
              go_simp
              go_wp2
              have V5x154367 := Lib.hid (B5x15436.out.set ⟨bsc, bze, bpo, bpl, bno, bnl⟩ (.slice pa3 (uvals bpl).length pc3) (.slice na3 (uvals bnl).length nc3))
              have KDx154367 := Lib.hid (KDx15436.out.newer (set6_kept wx15436 q5 (.int .i64 bsc) (.int .u64 (bze : Int)) (.int .i64 bpo) (.slice pa3 (uvals bpl).length pc3) (.int .i64 bno) (.slice na3 (uvals bnl).length nc3)) (fun k e => by have := HQ5.out; omega))
              have P1x154367 := Lib.hid (P1x15436.out.set6 B5x15436.out HQ5.out (.int .i64 bsc) (.int .u64 (bze : Int)) (.int .i64 bpo) (.slice pa3 (uvals bpl).length pc3) (.int .i64 bno) (.slice na3 (uvals bnl).length nc3))
              have Q1x154367 := Lib.hid (Q1x15436.out.set6 B5x15436.out HQ5.out (.int .i64 bsc) (.int .u64 (bze : Int)) (.int .i64 bpo) (.slice pa3 (uvals bpl).length pc3) (.int .i64 bno) (.slice na3 (uvals bnl).length nc3))
              have P3x154367 := Lib.hid (P3x15436.out.set6 B5x15436.out HQ5.out (.int .i64 bsc) (.int .u64 (bze : Int)) (.int .i64 bpo) (.slice pa3 (uvals bpl).length pc3) (.int .i64 bno) (.slice na3 (uvals bnl).length nc3))
              have Q3x154367 := Lib.hid (Q3x15436.out.set6 B5x15436.out HQ5.out (.int .i64 bsc) (.int .u64 (bze : Int)) (.int .i64 bpo) (.slice pa3 (uvals bpl).length pc3) (.int .i64 bno) (.slice na3 (uvals bnl).length nc3))
              have V4x154367 := Lib.hid (V4x15436.out.same (set6_kept wx15436 q5 (.int .i64 bsc) (.int .u64 (bze : Int)) (.int .i64 bpo) (.slice pa3 (uvals bpl).length pc3) (.int .i64 bno) (.slice na3 (uvals bnl).length nc3)) (fun e => by have := HNE.out; omega))
              simp only at V5x154367
              obtain ⟨wx154367, hw⟩ : ∃ w', w' = set6 wx15436 q5 (.int .i64 bsc) (.int .u64 (bze : Int)) (.int .i64 bpo) (.slice pa3 (uvals bpl).length pc3) (.int .i64 bno) (.slice na3 (uvals bnl).length nc3) := ⟨_, rfl⟩
              rw [← hw] at V5x154367 KDx154367 P1x154367 Q1x154367 P3x154367 Q3x154367 V4x154367
              unfold set6 at hw
              rw [← hw]
              clear hw z0 z1 z2 z3 z4 z5 zf
              have HSSx154367 : Hid ((fun w' => (w'.cell? ⟨W.heap.size, 0, none⟩ = some (.int .i64 asc) ∧ w'.cell? ⟨W.heap.size, 1, none⟩ = some (.int .u64 (aze : Int)) ∧ w'.cell? ⟨W.heap.size, 2, none⟩ = some (.int .i64 apo) ∧ w'.cell? ⟨W.heap.size, 3, none⟩ = some (.slice ao apl.length c) ∧ w'.cell? ⟨W.heap.size, 4, none⟩ = some (.int .i64 ano) ∧ w'.cell? ⟨W.heap.size, 5, none⟩ = some (.slice a1 anl.length c1)) ∧ (w'.cell? ⟨(W.heap.size + 1), 0, none⟩ = some (.int .i64 bsc) ∧ w'.cell? ⟨(W.heap.size + 1), 1, none⟩ = some (.int .u64 (bze : Int)) ∧ w'.cell? ⟨(W.heap.size + 1), 2, none⟩ = some (.int .i64 bpo) ∧ w'.cell? ⟨(W.heap.size + 1), 3, none⟩ = some (.slice bo bpl.length d) ∧ w'.cell? ⟨(W.heap.size + 1), 4, none⟩ = some (.int .i64 bno) ∧ w'.cell? ⟨(W.heap.size + 1), 5, none⟩ = some (.slice b1 bnl.length d1))) wx154367) := Lib.hid ⟨(HVA.out.on KDx154367.out).box.c, (HVB.out.on KDx154367.out).box.c⟩
              refine hK.out _ _ (HSSx154367.out) ?_
              clear hK K
              try simp only [Act.put, List.getElem_toArray, List.getElem_cons_succ, List.getElem_cons_zero, List.setIfInBounds_toArray, List.set_cons_zero, List.set_cons_succ]
              refine AnyBut.done (by kernel_rfl) ?_
              go_wp2
              go_meet
              exact ⟨q4, q5, _, _, _, _, rfl, rfl, ⟨V4x154367.out, P1x154367.out.at_, Q1x154367.out.at_⟩, ⟨V5x154367.out, P3x154367.out.at_, Q3x154367.out.at_⟩, KDx154367.out⟩
        · go_simp
          have hka := (Kept.refl (fun _ => False) wx).alloc (.cells #[.int .i64 0, .int .u64 0, .int .i64 0, .slice none 0 0, .int .i64 0, .slice none 0 0] 27)
          have KDx4 := Lib.hid (KDx.out.trans hka)
          have B4x4 := Lib.hid (hist_boxed wx zeroH (.slice none 0 0) (.slice none 0 0))
          have HQ4 := Lib.hid (show w3.heap.size ≤ wx.heap.size from KDx.out.size)
          unfold zeroH at B4x4
          simp only at B4x4
          obtain ⟨wx4, hw⟩ : ∃ w', w' = wx.alloc (.cells #[.int .i64 0, .int .u64 0, .int .i64 0, .slice none 0 0, .int .i64 0, .slice none 0 0] 27) := ⟨_, rfl⟩
          obtain ⟨q4, hq⟩ : ∃ x, x = wx.heap.size := ⟨_, rfl⟩
          rw [show (wx.alloc (.cells #[.int .i64 0, .int .u64 ((0 : Nat) : Int), .int .i64 0, .slice none 0 0, .int .i64 0, .slice none 0 0] 27)) = wx4 from hw.symm] at B4x4
          rw [← hw] at KDx4 ⊢
          rw [← hq] at B4x4 HQ4  ⊢
          clear hw hq hka
          have HSSx4 : Hid ((fun w' => (w'.cell? ⟨W.heap.size, 0, none⟩ = some (.int .i64 asc) ∧ w'.cell? ⟨W.heap.size, 1, none⟩ = some (.int .u64 (aze : Int)) ∧ w'.cell? ⟨W.heap.size, 2, none⟩ = some (.int .i64 apo) ∧ w'.cell? ⟨W.heap.size, 3, none⟩ = some (.slice ao apl.length c) ∧ w'.cell? ⟨W.heap.size, 4, none⟩ = some (.int .i64 ano) ∧ w'.cell? ⟨W.heap.size, 5, none⟩ = some (.slice a1 anl.length c1)) ∧ (w'.cell? ⟨(W.heap.size + 1), 0, none⟩ = some (.int .i64 bsc) ∧ w'.cell? ⟨(W.heap.size + 1), 1, none⟩ = some (.int .u64 (bze : Int)) ∧ w'.cell? ⟨(W.heap.size + 1), 2, none⟩ = some (.int .i64 bpo) ∧ w'.cell? ⟨(W.heap.size + 1), 3, none⟩ = some (.slice bo bpl.length d) ∧ w'.cell? ⟨(W.heap.size + 1), 4, none⟩ = some (.int .i64 bno) ∧ w'.cell? ⟨(W.heap.size + 1), 5, none⟩ = some (.slice b1 bnl.length d1))) wx4) := Lib.hid ⟨(HVA.out.on KDx4.out).box.c, (HVB.out.on KDx4.out).box.c⟩
          refine hK.out _ _ (HSSx4.out) ?_
          clear hK K
          try simp only [Act.put, List.getElem_toArray, List.getElem_cons_succ, List.getElem_cons_zero, List.setIfInBounds_toArray, List.set_cons_zero, List.set_cons_succ]
          refine AnyBut.two (i := 1) (j := 5) (by kernel_rfl) rfl rfl (fun K hK => ?_) (fun K hK => ?_)
          · go_simp
            go_wp2_with fail
            refine (HCA.out _ (HVA.out.on KDx4.out).at_).mono ?_
            rintro e wx41 ⟨pv, nv, rfl, m1, m2⟩
            obtain ⟨pa1, pc1, rfl⟩ := m1.slice
            obtain ⟨na1, nc1, rfl⟩ := m2.slice
            have KDx41 := Lib.hid (KDx4.out.trans m1.kept)
            have P1x41 := Lib.hid (m1.down KDx4.out)
            have Q1x41 := Lib.hid (m2.down KDx4.out)
            have B4x41 := Lib.hid (B4x4.out.same m1.kept (fun x => x))
            clear m1 m2
            have HSSx41 : Hid ((fun w' => (w'.cell? ⟨W.heap.size, 0, none⟩ = some (.int .i64 asc) ∧ w'.cell? ⟨W.heap.size, 1, none⟩ = some (.int .u64 (aze : Int)) ∧ w'.cell? ⟨W.heap.size, 2, none⟩ = some (.int .i64 apo) ∧ w'.cell? ⟨W.heap.size, 3, none⟩ = some (.slice ao apl.length c) ∧ w'.cell? ⟨W.heap.size, 4, none⟩ = some (.int .i64 ano) ∧ w'.cell? ⟨W.heap.size, 5, none⟩ = some (.slice a1 anl.length c1)) ∧ (w'.cell? ⟨(W.heap.size + 1), 0, none⟩ = some (.int .i64 bsc) ∧ w'.cell? ⟨(W.heap.size + 1), 1, none⟩ = some (.int .u64 (bze : Int)) ∧ w'.cell? ⟨(W.heap.size + 1), 2, none⟩ = some (.int .i64 bpo) ∧ w'.cell? ⟨(W.heap.size + 1), 3, none⟩ = some (.slice bo bpl.length d) ∧ w'.cell? ⟨(W.heap.size + 1), 4, none⟩ = some (.int .i64 bno) ∧ w'.cell? ⟨(W.heap.size + 1), 5, none⟩ = some (.slice b1 bnl.length d1))) wx41) := Lib.hid ⟨(HVA.out.on KDx41.out).box.c, (HVB.out.on KDx41.out).box.c⟩
            go_wp2
            refine hK.out _ _ (HSSx41.out) ?_
            clear hK K
            try simp only [Act.put, List.getElem_toArray, List.getElem_cons_succ, List.getElem_cons_zero, List.setIfInBounds_toArray, List.set_cons_zero, List.set_cons_succ]
            refine AnyBut.two (i := 3) (j := 5) (by kernel_rfl) rfl rfl (fun K hK => ?_) (fun K hK => ?_)
            · go_simp
              go_wp2_with fail
              refine (HCB.out _ (HVB.out.on KDx41.out).at_).mono ?_
              rintro e wx413 ⟨pv, nv, rfl, m1, m2⟩
              obtain ⟨pa3, pc3, rfl⟩ := m1.slice
              obtain ⟨na3, nc3, rfl⟩ := m2.slice
              have KDx413 := Lib.hid (KDx41.out.trans m1.kept)
              have P3x413 := Lib.hid (m1.down KDx41.out)
              have Q3x413 := Lib.hid (m2.down KDx41.out)
              have P1x413 := Lib.hid (P1x41.out.on m1.kept)
              have Q1x413 := Lib.hid (Q1x41.out.on m1.kept)
              have B4x413 := Lib.hid (B4x41.out.same m1.kept (fun x => x))
              clear m1 m2
              have HSSx413 : Hid ((fun w' => (w'.cell? ⟨W.heap.size, 0, none⟩ = some (.int .i64 asc) ∧ w'.cell? ⟨W.heap.size, 1, none⟩ = some (.int .u64 (aze : Int)) ∧ w'.cell? ⟨W.heap.size, 2, none⟩ = some (.int .i64 apo) ∧ w'.cell? ⟨W.heap.size, 3, none⟩ = some (.slice ao apl.length c) ∧ w'.cell? ⟨W.heap.size, 4, none⟩ = some (.int .i64 ano) ∧ w'.cell? ⟨W.heap.size, 5, none⟩ = some (.slice a1 anl.length c1)) ∧ (w'.cell? ⟨(W.heap.size + 1), 0, none⟩ = some (.int .i64 bsc) ∧ w'.cell? ⟨(W.heap.size + 1), 1, none⟩ = some (.int .u64 (bze : Int)) ∧ w'.cell? ⟨(W.heap.size + 1), 2, none⟩ = some (.int .i64 bpo) ∧ w'.cell? ⟨(W.heap.size + 1), 3, none⟩ = some (.slice bo bpl.length d) ∧ w'.cell? ⟨(W.heap.size + 1), 4, none⟩ = some (.int .i64 bno) ∧ w'.cell? ⟨(W.heap.size + 1), 5, none⟩ = some (.slice b1 bnl.length d1))) wx413) := Lib.hid ⟨(HVA.out.on KDx413.out).box.c, (HVB.out.on KDx413.out).box.c⟩
              go_wp2
              refine hK.out _ _ (HSSx413.out) ?_
              clear hK K
              try simp only [Act.put, List.getElem_toArray, List.getElem_cons_succ, List.getElem_cons_zero, List.setIfInBounds_toArray, List.set_cons_zero, List.set_cons_succ]
              refine AnyBut.one (i := 5) (by kernel_rfl) rfl (fun K hK => ?_)
              go_simp
              have hka := (Kept.refl (fun _ => False) wx413).alloc (.cells #[.int .i64 0, .int .u64 0, .int .i64 0, .slice none 0 0, .int .i64 0, .slice none 0 0] 27)
              have KDx4135 := Lib.hid (KDx413.out.trans hka)
              have B5x4135 := Lib.hid (hist_boxed wx413 zeroH (.slice none 0 0) (.slice none 0 0))
              have HQ5 := Lib.hid (show w3.heap.size ≤ wx413.heap.size from KDx413.out.size)
              have HNE := Lib.hid (show q4 ≠ wx413.heap.size from fun e => by have := (Array.getElem?_eq_some_iff.1 B4x413.out).1; omega)
              have P1x4135 := Lib.hid (P1x413.out.on hka)
              have Q1x4135 := Lib.hid (Q1x413.out.on hka)
              have P3x4135 := Lib.hid (P3x413.out.on hka)
              have Q3x4135 := Lib.hid (Q3x413.out.on hka)
              have B4x4135 := Lib.hid (B4x413.out.same hka (fun x => x))
              unfold zeroH at B5x4135
              simp only at B5x4135
              obtain ⟨wx4135, hw⟩ : ∃ w', w' = wx413.alloc (.cells #[.int .i64 0, .int .u64 0, .int .i64 0, .slice none 0 0, .int .i64 0, .slice none 0 0] 27) := ⟨_, rfl⟩
              obtain ⟨q5, hq⟩ : ∃ x, x = wx413.heap.size := ⟨_, rfl⟩
              rw [show (wx413.alloc (.cells #[.int .i64 0, .int .u64 ((0 : Nat) : Int), .int .i64 0, .slice none 0 0, .int .i64 0, .slice none 0 0] 27)) = wx4135 from hw.symm] at B5x4135
              rw [← hw] at KDx4135 P1x4135 Q1x4135 P3x4135 Q3x4135 B4x4135 ⊢
              rw [← hq] at B5x4135 HQ5 HNE ⊢
              clear hw hq hka
              have HSSx4135 : Hid ((fun w' => (w'.cell? ⟨W.heap.size, 0, none⟩ = some (.int .i64 asc) ∧ w'.cell? ⟨W.heap.size, 1, none⟩ = some (.int .u64 (aze : Int)) ∧ w'.cell? ⟨W.heap.size, 2, none⟩ = some (.int .i64 apo) ∧ w'.cell? ⟨W.heap.size, 3, none⟩ = some (.slice ao apl.length c) ∧ w'.cell? ⟨W.heap.size, 4, none⟩ = some (.int .i64 ano) ∧ w'.cell? ⟨W.heap.size, 5, none⟩ = some (.slice a1 anl.length c1)) ∧ (w'.cell? ⟨(W.heap.size + 1), 0, none⟩ = some (.int .i64 bsc) ∧ w'.cell? ⟨(W.heap.size + 1), 1, none⟩ = some (.int .u64 (bze : Int)) ∧ w'.cell? ⟨(W.heap.size + 1), 2, none⟩ = some (.int .i64 bpo) ∧ w'.cell? ⟨(W.heap.size + 1), 3, none⟩ = some (.slice bo bpl.length d) ∧ w'.cell? ⟨(W.heap.size + 1), 4, none⟩ = some (.int .i64 bno) ∧ w'.cell? ⟨(W.heap.size + 1), 5, none⟩ = some (.slice b1 bnl.length d1))) wx4135) := Lib.hid ⟨(HVA.out.on KDx4135.out).box.c, (HVB.out.on KDx4135.out).box.c⟩
              refine hK.out _ _ (HSSx4135.out) ?_
              clear hK K
              try simp only [Act.put, List.getElem_toArray, List.getElem_cons_succ, List.getElem_cons_zero, List.setIfInBounds_toArray, List.set_cons_zero, List.set_cons_succ]
              refine AnyBut.one (i := 6) (by kernel_rfl) rfl (fun K hK => ?_)
              obtain ⟨z0, z1, z2, z3, z4, z5⟩ := B4x4135.out.c
              have zf := B4x4135.out.f
              simp only at z0 z1 z2 z4
              go_simp
              go_wp2
              have V4x41356 := Lib.hid (B4x4135.out.set ⟨asc, aze, apo, apl, ano, anl⟩ (.slice pa1 (uvals apl).length pc1) (.slice na1 (uvals anl).length nc1))
              have KDx41356 := Lib.hid (KDx4135.out.newer (set6_kept wx4135 q4 (.int .i64 asc) (.int .u64 (aze : Int)) (.int .i64 apo) (.slice pa1 (uvals apl).length pc1) (.int .i64 ano) (.slice na1 (uvals anl).length nc1)) (fun k e => by have := HQ4.out; omega))
              have P1x41356 := Lib.hid (P1x4135.out.set6 B4x4135.out HQ4.out (.int .i64 asc) (.int .u64 (aze : Int)) (.int .i64 apo) (.slice pa1 (uvals apl).length pc1) (.int .i64 ano) (.slice na1 (uvals anl).length nc1))
              have Q1x41356 := Lib.hid (Q1x4135.out.set6 B4x4135.out HQ4.out (.int .i64 asc) (.int .u64 (aze : Int)) (.int .i64 apo) (.slice pa1 (uvals apl).length pc1) (.int .i64 ano) (.slice na1 (uvals anl).length nc1))
              have P3x41356 := Lib.hid (P3x4135.out.set6 B4x4135.out HQ4.out (.int .i64 asc) (.int .u64 (aze : Int)) (.int .i64 apo) (.slice pa1 (uvals apl).length pc1) (.int .i64 ano) (.slice na1 (uvals anl).length nc1))
              have Q3x41356 := Lib.hid (Q3x4135.out.set6 B4x4135.out HQ4.out (.int .i64 asc) (.int .u64 (aze : Int)) (.int .i64 apo) (.slice pa1 (uvals apl).length pc1) (.int .i64 ano) (.slice na1 (uvals anl).length nc1))
              have B5x41356 := Lib.hid (B5x4135.out.same (set6_kept wx4135 q4 (.int .i64 asc) (.int .u64 (aze : Int)) (.int .i64 apo) (.slice pa1 (uvals apl).length pc1) (.int .i64 ano) (.slice na1 (uvals anl).length nc1)) (fun e => by have := HNE.out; omega))
              simp only at V4x41356
              obtain ⟨wx41356, hw⟩ : ∃ w', w' = set6 wx4135 q4 (.int .i64 asc) (.int .u64 (aze : Int)) (.int .i64 apo) (.slice pa1 (uvals apl).length pc1) (.int .i64 ano) (.slice na1 (uvals anl).length nc1) := ⟨_, rfl⟩
              rw [← hw] at V4x41356 KDx41356 P1x41356 Q1x41356 P3x41356 Q3x41356 B5x41356
              unfold set6 at hw
              rw [← hw]
              clear hw z0 z1 z2 z3 z4 z5 zf
              have HSSx41356 : Hid ((fun w' => (w'.cell? ⟨W.heap.size, 0, none⟩ = some (.int .i64 asc) ∧ w'.cell? ⟨W.heap.size, 1, none⟩ = some (.int .u64 (aze : Int)) ∧ w'.cell? ⟨W.heap.size, 2, none⟩ = some (.int .i64 apo) ∧ w'.cell? ⟨W.heap.size, 3, none⟩ = some (.slice ao apl.length c) ∧ w'.cell? ⟨W.heap.size, 4, none⟩ = some (.int .i64 ano) ∧ w'.cell? ⟨W.heap.size, 5, none⟩ = some (.slice a1 anl.length c1)) ∧ (w'.cell? ⟨(W.heap.size + 1), 0, none⟩ = some (.int .i64 bsc) ∧ w'.cell? ⟨(W.heap.size + 1), 1, none⟩ = some (.int .u64 (bze : Int)) ∧ w'.cell? ⟨(W.heap.size + 1), 2, none⟩ = some (.int .i64 bpo) ∧ w'.cell? ⟨(W.heap.size + 1), 3, none⟩ = some (.slice bo bpl.length d) ∧ w'.cell? ⟨(W.heap.size + 1), 4, none⟩ = some (.int .i64 bno) ∧ w'.cell? ⟨(W.heap.size + 1), 5, none⟩ = some (.slice b1 bnl.length d1))) wx41356) := Lib.hid ⟨(HVA.out.on KDx41356.out).box.c, (HVB.out.on KDx41356.out).box.c⟩
              refine hK.out _ _ (HSSx41356.out) ?_
              clear hK K
              try simp only [Act.put, List.getElem_toArray, List.getElem_cons_succ, List.getElem_cons_zero, List.setIfInBounds_toArray, List.set_cons_zero, List.set_cons_succ]
              refine AnyBut.one (i := 7) (by kernel_rfl) rfl (fun K hK => ?_)
              obtain ⟨z0, z1, z2, z3, z4, z5⟩ := B5x41356.out.c
              have zf := B5x41356.out.f
              simp only at z0 z1 z2 z4
              go_simp
              go_wp2
              have V5x413567 := Lib.hid (B5x41356.out.set ⟨bsc, bze, bpo, bpl, bno, bnl⟩ (.slice pa3 (uvals bpl).length pc3) (.slice na3 (uvals bnl).length nc3))
              have KDx413567 := Lib.hid (KDx41356.out.newer (set6_kept wx41356 q5 (.int .i64 bsc) (.int .u64 (bze : Int)) (.int .i64 bpo) (.slice pa3 (uvals bpl).length pc3) (.int .i64 bno) (.slice na3 (uvals bnl).length nc3)) (fun k e => by have := HQ5.out; omega))
              have P1x413567 := Lib.hid (P1x41356.out.set6 B5x41356.out HQ5.out (.int .i64 bsc) (.int .u64 (bze : Int)) (.int .i64 bpo) (.slice pa3 (uvals bpl).length pc3) (.int .i64 bno) (.slice na3 (uvals bnl).length nc3))
              have Q1x413567 := Lib.hid (Q1x41356.out.set6 B5x41356.out HQ5.out (.int .i64 bsc) (.int .u64 (bze : Int)) (.int .i64 bpo) (.slice pa3 (uvals bpl).length pc3) (.int .i64 bno) (.slice na3 (uvals bnl).length nc3))
              have P3x413567 := Lib.hid (P3x41356.out.set6 B5x41356.out HQ5.out (.int .i64 bsc) (.int .u64 (bze : Int)) (.int .i64 bpo) (.slice pa3 (uvals bpl).length pc3) (.int .i64 bno) (.slice na3 (uvals bnl).length nc3))
              have Q3x413567 := Lib.hid (Q3x41356.out.set6 B5x41356.out HQ5.out (.int .i64 bsc) (.int .u64 (bze : Int)) (.int .i64 bpo) (.slice pa3 (uvals bpl).length pc3) (.int .i64 bno) (.slice na3 (uvals bnl).length nc3))
              have V4x413567 := Lib.hid (V4x41356.out.same (set6_kept wx41356 q5 (.int .i64 bsc) (.int .u64 (bze : Int)) (.int .i64 bpo) (.slice pa3 (uvals bpl).length pc3) (.int .i64 bno) (.slice na3 (uvals bnl).length nc3)) (fun e => by have := HNE.out; omega))
              simp only at V5x413567
              obtain ⟨wx413567, hw⟩ : ∃ w', w' = set6 wx41356 q5 (.int .i64 bsc) (.int .u64 (bze : Int)) (.int .i64 bpo) (.slice pa3 (uvals bpl).length pc3) (.int .i64 bno) (.slice na3 (uvals bnl).length nc3) := ⟨_, rfl⟩
              rw [← hw] at V5x413567 KDx413567 P1x413567 Q1x413567 P3x413567 Q3x413567 V4x413567
              unfold set6 at hw
              rw [← hw]
              clear hw z0 z1 z2 z3 z4 z5 zf
              have HSSx413567 : Hid ((fun w' => (w'.cell? ⟨W.heap.size, 0, none⟩ = some (.int .i64 asc) ∧ w'.cell? ⟨W.heap.size, 1, none⟩ = some (.int .u64 (aze : Int)) ∧ w'.cell? ⟨W.heap.size, 2, none⟩ = some (.int .i64 apo) ∧ w'.cell? ⟨W.heap.size, 3, none⟩ = some (.slice ao apl.length c) ∧ w'.cell? ⟨W.heap.size, 4, none⟩ = some (.int .i64 ano) ∧ w'.cell? ⟨W.heap.size, 5, none⟩ = some (.slice a1 anl.length c1)) ∧ (w'.cell? ⟨(W.heap.size + 1), 0, none⟩ = some (.int .i64 bsc) ∧ w'.cell? ⟨(W.heap.size + 1), 1, none⟩ = some (.int .u64 (bze : Int)) ∧ w'.cell? ⟨(W.heap.size + 1), 2, none⟩ = some (.int .i64 bpo) ∧ w'.cell? ⟨(W.heap.size + 1), 3, none⟩ = some (.slice bo bpl.length d) ∧ w'.cell? ⟨(W.heap.size + 1), 4, none⟩ = some (.int .i64 bno) ∧ w'.cell? ⟨(W.heap.size + 1), 5, none⟩ = some (.slice b1 bnl.length d1))) wx413567) := Lib.hid ⟨(HVA.out.on KDx413567.out).box.c, (HVB.out.on KDx413567.out).box.c⟩
              refine hK.out _ _ (HSSx413567.out) ?_
              clear hK K
              try simp only [Act.put, List.getElem_toArray, List.getElem_cons_succ, List.getElem_cons_zero, List.setIfInBounds_toArray, List.set_cons_zero, List.set_cons_succ]
              refine AnyBut.done (by kernel_rfl) ?_
              go_wp2
              go_meet
              exact ⟨q4, q5, _, _, _, _, rfl, rfl, ⟨V4x413567.out, P1x413567.out.at_, Q1x413567.out.at_⟩, ⟨V5x413567.out, P3x413567.out.at_, Q3x413567.out.at_⟩, KDx413567.out⟩
            · go_simp
              have hka := (Kept.refl (fun _ => False) wx41).alloc (.cells #[.int .i64 0, .int .u64 0, .int .i64 0, .slice none 0 0, .int .i64 0, .slice none 0 0] 27)
              have KDx415 := Lib.hid (KDx41.out.trans hka)
              have B5x415 := Lib.hid (hist_boxed wx41 zeroH (.slice none 0 0) (.slice none 0 0))
              have HQ5 := Lib.hid (show w3.heap.size ≤ wx41.heap.size from KDx41.out.size)
              have HNE := Lib.hid (show q4 ≠ wx41.heap.size from fun e => by have := (Array.getElem?_eq_some_iff.1 B4x41.out).1; omega)
              have P1x415 := Lib.hid (P1x41.out.on hka)
              have Q1x415 := Lib.hid (Q1x41.out.on hka)
              have B4x415 := Lib.hid (B4x41.out.same hka (fun x => x))
              unfold zeroH at B5x415
              simp only at B5x415
              obtain ⟨wx415, hw⟩ : ∃ w', w' = wx41.alloc (.cells #[.int .i64 0, .int .u64 0, .int .i64 0, .slice none 0 0, .int .i64 0, .slice none 0 0] 27) := ⟨_, rfl⟩
              obtain ⟨q5, hq⟩ : ∃ x, x = wx41.heap.size := ⟨_, rfl⟩
              rw [show (wx41.alloc (.cells #[.int .i64 0, .int .u64 ((0 : Nat) : Int), .int .i64 0, .slice none 0 0, .int .i64 0, .slice none 0 0] 27)) = wx415 from hw.symm] at B5x415
              rw [← hw] at KDx415 P1x415 Q1x415 B4x415 ⊢
              rw [← hq] at B5x415 HQ5 HNE ⊢
              clear hw hq hka
              have HSSx415 : Hid ((fun w' => (w'.cell? ⟨W.heap.size, 0, none⟩ = some (.int .i64 asc) ∧ w'.cell? ⟨W.heap.size, 1, none⟩ = some (.int .u64 (aze : Int)) ∧ w'.cell? ⟨W.heap.size, 2, none⟩ = some (.int .i64 apo) ∧ w'.cell? ⟨W.heap.size, 3, none⟩ = some (.slice ao apl.length c) ∧ w'.cell? ⟨W.heap.size, 4, none⟩ = some (.int .i64 ano) ∧ w'.cell? ⟨W.heap.size, 5, none⟩ = some (.slice a1 anl.length c1)) ∧ (w'.cell? ⟨(W.heap.size + 1), 0, none⟩ = some (.int .i64 bsc) ∧ w'.cell? ⟨(W.heap.size + 1), 1, none⟩ = some (.int .u64 (bze : Int)) ∧ w'.cell? ⟨(W.heap.size + 1), 2, none⟩ = some (.int .i64 bpo) ∧ w'.cell? ⟨(W.heap.size + 1), 3, none⟩ = some (.slice bo bpl.length d) ∧ w'.cell? ⟨(W.heap.size + 1), 4, none⟩ = some (.int .i64 bno) ∧ w'.cell? ⟨(W.heap.size + 1), 5, none⟩ = some (.slice b1 bnl.length d1))) wx415) := Lib.hid ⟨(HVA.out.on KDx415.out).box.c, (HVB.out.on KDx415.out).box.c⟩
              refine hK.out _ _ (HSSx415.out) ?_
              clear hK K
              try simp only [Act.put, List.getElem_toArray, List.getElem_cons_succ, List.getElem_cons_zero, List.setIfInBounds_toArray, List.set_cons_zero, List.set_cons_succ]
              refine AnyBut.one (i := 3) (by kernel_rfl) rfl (fun K hK => ?_)
              go_simp
              go_wp2_with fail
              refine (HCB.out _ (HVB.out.on KDx415.out).at_).mono ?_
              rintro e wx4153 ⟨pv, nv, rfl, m1, m2⟩
              obtain ⟨pa3, pc3, rfl⟩ := m1.slice
              obtain ⟨na3, nc3, rfl⟩ := m2.slice
              have KDx4153 := Lib.hid (KDx415.out.trans m1.kept)
              have P3x4153 := Lib.hid (m1.down KDx415.out)
              have Q3x4153 := Lib.hid (m2.down KDx415.out)
              have P1x4153 := Lib.hid (P1x415.out.on m1.kept)
              have Q1x4153 := Lib.hid (Q1x415.out.on m1.kept)
              have B4x4153 := Lib.hid (B4x415.out.same m1.kept (fun x => x))
              have B5x4153 := Lib.hid (B5x415.out.same m1.kept (fun x => x))
              clear m1 m2
              have HSSx4153 : Hid ((fun w' => (w'.cell? ⟨W.heap.size, 0, none⟩ = some (.int .i64 asc) ∧ w'.cell? ⟨W.heap.size, 1, none⟩ = some (.int .u64 (aze : Int)) ∧ w'.cell? ⟨W.heap.size, 2, none⟩ = some (.int .i64 apo) ∧ w'.cell? ⟨W.heap.size, 3, none⟩ = some (.slice ao apl.length c) ∧ w'.cell? ⟨W.heap.size, 4, none⟩ = some (.int .i64 ano) ∧ w'.cell? ⟨W.heap.size, 5, none⟩ = some (.slice a1 anl.length c1)) ∧ (w'.cell? ⟨(W.heap.size + 1), 0, none⟩ = some (.int .i64 bsc) ∧ w'.cell? ⟨(W.heap.size + 1), 1, none⟩ = some (.int .u64 (bze : Int)) ∧ w'.cell? ⟨(W.heap.size + 1), 2, none⟩ = some (.int .i64 bpo) ∧ w'.cell? ⟨(W.heap.size + 1), 3, none⟩ = some (.slice bo bpl.length d) ∧ w'.cell? ⟨(W.heap.size + 1), 4, none⟩ = some (.int .i64 bno) ∧ w'.cell? ⟨(W.heap.size + 1), 5, none⟩ = some (.slice b1 bnl.length d1))) wx4153) := Lib.hid ⟨(HVA.out.on KDx4153.out).box.c, (HVB.out.on KDx4153.out).box.c⟩
              go_wp2
              refine hK.out _ _ (HSSx4153.out) ?_
              clear hK K
              try simp only [Act.put, List.getElem_toArray, List.getElem_cons_succ, List.getElem_cons_zero, List.setIfInBounds_toArray, List.set_cons_zero, List.set_cons_succ]
              refine AnyBut.one (i := 6) (by kernel_rfl) rfl (fun K hK => ?_)
              obtain ⟨z0, z1, z2, z3, z4, z5⟩ := B4x4153.out.c
              have zf := B4x4153.out.f
              simp only at z0 z1 z2 z4
              go_simp
              go_wp2
              have V4x41536 := Lib.hid (B4x4153.out.set ⟨asc, aze, apo, apl, ano, anl⟩ (.slice pa1 (uvals apl).length pc1) (.slice na1 (uvals anl).length nc1))
              have KDx41536 := Lib.hid (KDx4153.out.newer (set6_kept wx4153 q4 (.int .i64 asc) (.int .u64 (aze : Int)) (.int .i64 apo) (.slice pa1 (uvals apl).length pc1) (.int .i64 ano) (.slice na1 (uvals anl).length nc1)) (fun k e => by have := HQ4.out; omega))
              have P1x41536 := Lib.hid (P1x4153.out.set6 B4x4153.out HQ4.out (.int .i64 asc) (.int .u64 (aze : Int)) (.int .i64 apo) (.slice pa1 (uvals apl).length pc1) (.int .i64 ano) (.slice na1 (uvals anl).length nc1))
              have Q1x41536 := Lib.hid (Q1x4153.out.set6 B4x4153.out HQ4.out (.int .i64 asc) (.int .u64 (aze : Int)) (.int .i64 apo) (.slice pa1 (uvals apl).length pc1) (.int .i64 ano) (.slice na1 (uvals anl).length nc1))
              have P3x41536 := Lib.hid (P3x4153.out.set6 B4x4153.out HQ4.out (.int .i64 asc) (.int .u64 (aze : Int)) (.int .i64 apo) (.slice pa1 (uvals apl).length pc1) (.int .i64 ano) (.slice na1 (uvals anl).length nc1))
              have Q3x41536 := Lib.hid (Q3x4153.out.set6 B4x4153.out HQ4.out (.int .i64 asc) (.int .u64 (aze : Int)) (.int .i64 apo) (.slice pa1 (uvals apl).length pc1) (.int .i64 ano) (.slice na1 (uvals anl).length nc1))
              have B5x41536 := Lib.hid (B5x4153.out.same (set6_kept wx4153 q4 (.int .i64 asc) (.int .u64 (aze : Int)) (.int .i64 apo) (.slice pa1 (uvals apl).length pc1) (.int .i64 ano) (.slice na1 (uvals anl).length nc1)) (fun e => by have := HNE.out; omega))
              simp only at V4x41536
              obtain ⟨wx41536, hw⟩ : ∃ w', w' = set6 wx4153 q4 (.int .i64 asc) (.int .u64 (aze : Int)) (.int .i64 apo) (.slice pa1 (uvals apl).length pc1) (.int .i64 ano) (.slice na1 (uvals anl).length nc1) := ⟨_, rfl⟩
              rw [← hw] at V4x41536 KDx41536 P1x41536 Q1x41536 P3x41536 Q3x41536 B5x41536
              unfold set6 at hw
              rw [← hw]
              clear hw z0 z1 z2 z3 z4 z5 zf
              have HSSx41536 : Hid ((fun w' => (w'.cell? ⟨W.heap.size, 0, none⟩ = some (.int .i64 asc) ∧ w'.cell? ⟨W.heap.size, 1, none⟩ = some (.int .u64 (aze : Int)) ∧ w'.cell? ⟨W.heap.size, 2, none⟩ = some (.int .i64 apo) ∧ w'.cell? ⟨W.heap.size, 3, none⟩ = some (.slice ao apl.length c) ∧ w'.cell? ⟨W.heap.size, 4, none⟩ = some (.int .i64 ano) ∧ w'.cell? ⟨W.heap.size, 5, none⟩ = some (.slice a1 anl.length c1)) ∧ (w'.cell? ⟨(W.heap.size + 1), 0, none⟩ = some (.int .i64 bsc) ∧ w'.cell? ⟨(W.heap.size + 1), 1, none⟩ = some (.int .u64 (bze : Int)) ∧ w'.cell? ⟨(W.heap.size + 1), 2, none⟩ = some (.int .i64 bpo) ∧ w'.cell? ⟨(W.heap.size + 1), 3, none⟩ = some (.slice bo bpl.length d) ∧ w'.cell? ⟨(W.heap.size + 1), 4, none⟩ = some (.int .i64 bno) ∧ w'.cell? ⟨(W.heap.size + 1), 5, none⟩ = some (.slice b1 bnl.length d1))) wx41536) := Lib.hid ⟨(HVA.out.on KDx41536.out).box.c, (HVB.out.on KDx41536.out).box.c⟩
              refine hK.out _ _ (HSSx41536.out) ?_
              clear hK K
              try simp only [Act.put, List.getElem_toArray, List.getElem_cons_succ, List.getElem_cons_zero, List.setIfInBounds_toArray, List.set_cons_zero, List.set_cons_succ]
              refine AnyBut.one (i := 7) (by kernel_rfl) rfl (fun K hK => ?_)
              obtain ⟨z0, z1, z2, z3, z4, z5⟩ := B5x41536.out.c
              have zf := B5x41536.out.f
              simp only at z0 z1 z2 z4
              go_simp
              go_wp2
              have V5x415367 := Lib.hid (B5x41536.out.set ⟨bsc, bze, bpo, bpl, bno, bnl⟩ (.slice pa3 (uvals bpl).length pc3) (.slice na3 (uvals bnl).length nc3))
              have KDx415367 := Lib.hid (KDx41536.out.newer (set6_kept wx41536 q5 (.int .i64 bsc) (.int .u64 (bze : Int)) (.int .i64 bpo) (.slice pa3 (uvals bpl).length pc3) (.int .i64 bno) (.slice na3 (uvals bnl).length nc3)) (fun k e => by have := HQ5.out; omega))
              have P1x415367 := Lib.hid (P1x41536.out.set6 B5x41536.out HQ5.out (.int .i64 bsc) (.int .u64 (bze : Int)) (.int .i64 bpo) (.slice pa3 (uvals bpl).length pc3) (.int .i64 bno) (.slice na3 (uvals bnl).length nc3))
              have Q1x415367 := Lib.hid (Q1x41536.out.set6 B5x41536.out HQ5.out (.int .i64 bsc) (.int .u64 (bze : Int)) (.int .i64 bpo) (.slice pa3 (uvals bpl).length pc3) (.int .i64 bno) (.slice na3 (uvals bnl).length nc3))
              have P3x415367 := Lib.hid (P3x41536.out.set6 B5x41536.out HQ5.out (.int .i64 bsc) (.int .u64 (bze : Int)) (.int .i64 bpo) (.slice pa3 (uvals bpl).length pc3) (.int .i64 bno) (.slice na3 (uvals bnl).length nc3))
              have Q3x415367 := Lib.hid (Q3x41536.out.set6 B5x41536.out HQ5.out (.int .i64 bsc) (.int .u64 (bze : Int)) (.int .i64 bpo) (.slice pa3 (uvals bpl).length pc3) (.int .i64 bno) (.slice na3 (uvals bnl).length nc3))
              have V4x415367 := Lib.hid (V4x41536.out.same (set6_kept wx41536 q5 (.int .i64 bsc) (.int .u64 (bze : Int)) (.int .i64 bpo) (.slice pa3 (uvals bpl).length pc3) (.int .i64 bno) (.slice na3 (uvals bnl).length nc3)) (fun e => by have := HNE.out; omega))
              simp only at V5x415367
              obtain ⟨wx415367, hw⟩ : ∃ w', w' = set6 wx41536 q5 (.int .i64 bsc) (.int .u64 (bze : Int)) (.int .i64 bpo) (.slice pa3 (uvals bpl).length pc3) (.int .i64 bno) (.slice na3 (uvals bnl).length nc3) := ⟨_, rfl⟩
              rw [← hw] at V5x415367 KDx415367 P1x415367 Q1x415367 P3x415367 Q3x415367 V4x415367
              unfold set6 at hw
              rw [← hw]
              clear hw z0 z1 z2 z3 z4 z5 zf
              have HSSx415367 : Hid ((fun w' => (w'.cell? ⟨W.heap.size, 0, none⟩ = some (.int .i64 asc) ∧ w'.cell? ⟨W.heap.size, 1, none⟩ = some (.int .u64 (aze : Int)) ∧ w'.cell? ⟨W.heap.size, 2, none⟩ = some (.int .i64 apo) ∧ w'.cell? ⟨W.heap.size, 3, none⟩ = some (.slice ao apl.length c) ∧ w'.cell? ⟨W.heap.size, 4, none⟩ = some (.int .i64 ano) ∧ w'.cell? ⟨W.heap.size, 5, none⟩ = some (.slice a1 anl.length c1)) ∧ (w'.cell? ⟨(W.heap.size + 1), 0, none⟩ = some (.int .i64 bsc) ∧ w'.cell? ⟨(W.heap.size + 1), 1, none⟩ = some (.int .u64 (bze : Int)) ∧ w'.cell? ⟨(W.heap.size + 1), 2, none⟩ = some (.int .i64 bpo) ∧ w'.cell? ⟨(W.heap.size + 1), 3, none⟩ = some (.slice bo bpl.length d) ∧ w'.cell? ⟨(W.heap.size + 1), 4, none⟩ = some (.int .i64 bno) ∧ w'.cell? ⟨(W.heap.size + 1), 5, none⟩ = some (.slice b1 bnl.length d1))) wx415367) := Lib.hid ⟨(HVA.out.on KDx415367.out).box.c, (HVB.out.on KDx415367.out).box.c⟩
              refine hK.out _ _ (HSSx415367.out) ?_
              clear hK K
              try simp only [Act.put, List.getElem_toArray, List.getElem_cons_succ, List.getElem_cons_zero, List.setIfInBounds_toArray, List.set_cons_zero, List.set_cons_succ]
              refine AnyBut.done (by kernel_rfl) ?_
              go_wp2
              go_meet
              exact ⟨q4, q5, _, _, _, _, rfl, rfl, ⟨V4x415367.out, P1x415367.out.at_, Q1x415367.out.at_⟩, ⟨V5x415367.out, P3x415367.out.at_, Q3x415367.out.at_⟩, KDx415367.out⟩
          · go_simp
            have hka := (Kept.refl (fun _ => False) wx4).alloc (.cells #[.int .i64 0, .int .u64 0, .int .i64 0, .slice none 0 0, .int .i64 0, .slice none 0 0] 27)
            have KDx45 := Lib.hid (KDx4.out.trans hka)
            have B5x45 := Lib.hid (hist_boxed wx4 zeroH (.slice none 0 0) (.slice none 0 0))
            have HQ5 := Lib.hid (show w3.heap.size ≤ wx4.heap.size from KDx4.out.size)
            have HNE := Lib.hid (show q4 ≠ wx4.heap.size from fun e => by have := (Array.getElem?_eq_some_iff.1 B4x4.out).1; omega)
            have B4x45 := Lib.hid (B4x4.out.same hka (fun x => x))
            unfold zeroH at B5x45
            simp only at B5x45
            obtain ⟨wx45, hw⟩ : ∃ w', w' = wx4.alloc (.cells #[.int .i64 0, .int .u64 0, .int .i64 0, .slice none 0 0, .int .i64 0, .slice none 0 0] 27) := ⟨_, rfl⟩
            obtain ⟨q5, hq⟩ : ∃ x, x = wx4.heap.size := ⟨_, rfl⟩
            rw [show (wx4.alloc (.cells #[.int .i64 0, .int .u64 ((0 : Nat) : Int), .int .i64 0, .slice none 0 0, .int .i64 0, .slice none 0 0] 27)) = wx45 from hw.symm] at B5x45
            rw [← hw] at KDx45 B4x45 ⊢
            rw [← hq] at B5x45 HQ5 HNE ⊢
            clear hw hq hka
            have HSSx45 : Hid ((fun w' => (w'.cell? ⟨W.heap.size, 0, none⟩ = some (.int .i64 asc) ∧ w'.cell? ⟨W.heap.size, 1, none⟩ = some (.int .u64 (aze : Int)) ∧ w'.cell? ⟨W.heap.size, 2, none⟩ = some (.int .i64 apo) ∧ w'.cell? ⟨W.heap.size, 3, none⟩ = some (.slice ao apl.length c) ∧ w'.cell? ⟨W.heap.size, 4, none⟩ = some (.int .i64 ano) ∧ w'.cell? ⟨W.heap.size, 5, none⟩ = some (.slice a1 anl.length c1)) ∧ (w'.cell? ⟨(W.heap.size + 1), 0, none⟩ = some (.int .i64 bsc) ∧ w'.cell? ⟨(W.heap.size + 1), 1, none⟩ = some (.int .u64 (bze : Int)) ∧ w'.cell? ⟨(W.heap.size + 1), 2, none⟩ = some (.int .i64 bpo) ∧ w'.cell? ⟨(W.heap.size + 1), 3, none⟩ = some (.slice bo bpl.length d) ∧ w'.cell? ⟨(W.heap.size + 1), 4, none⟩ = some (.int .i64 bno) ∧ w'.cell? ⟨(W.heap.size + 1), 5, none⟩ = some (.slice b1 bnl.length d1))) wx45) := Lib.hid ⟨(HVA.out.on KDx45.out).box.c, (HVB.out.on KDx45.out).box.c⟩
            refine hK.out _ _ (HSSx45.out) ?_
            clear hK K
            try simp only [Act.put, List.getElem_toArray, List.getElem_cons_succ, List.getElem_cons_zero, List.setIfInBounds_toArray, List.set_cons_zero, List.set_cons_succ]
            refine AnyBut.one (i := 1) (by kernel_rfl) rfl (fun K hK => ?_)
            go_simp
            go_wp2_with fail
            refine (HCA.out _ (HVA.out.on KDx45.out).at_).mono ?_
            rintro e wx451 ⟨pv, nv, rfl, m1, m2⟩
            obtain ⟨pa1, pc1, rfl⟩ := m1.slice
            obtain ⟨na1, nc1, rfl⟩ := m2.slice
            have KDx451 := Lib.hid (KDx45.out.trans m1.kept)
            have P1x451 := Lib.hid (m1.down KDx45.out)
            have Q1x451 := Lib.hid (m2.down KDx45.out)
            have B4x451 := Lib.hid (B4x45.out.same m1.kept (fun x => x))
            have B5x451 := Lib.hid (B5x45.out.same m1.kept (fun x => x))
            clear m1 m2
            have HSSx451 : Hid ((fun w' => (w'.cell? ⟨W.heap.size, 0, none⟩ = some (.int .i64 asc) ∧ w'.cell? ⟨W.heap.size, 1, none⟩ = some (.int .u64 (aze : Int)) ∧ w'.cell? ⟨W.heap.size, 2, none⟩ = some (.int .i64 apo) ∧ w'.cell? ⟨W.heap.size, 3, none⟩ = some (.slice ao apl.length c) ∧ w'.cell? ⟨W.heap.size, 4, none⟩ = some (.int .i64 ano) ∧ w'.cell? ⟨W.heap.size, 5, none⟩ = some (.slice a1 anl.length c1)) ∧ (w'.cell? ⟨(W.heap.size + 1), 0, none⟩ = some (.int .i64 bsc) ∧ w'.cell? ⟨(W.heap.size + 1), 1, none⟩ = some (.int .u64 (bze : Int)) ∧ w'.cell? ⟨(W.heap.size + 1), 2, none⟩ = some (.int .i64 bpo) ∧ w'.cell? ⟨(W.heap.size + 1), 3, none⟩ = some (.slice bo bpl.length d) ∧ w'.cell? ⟨(W.heap.size + 1), 4, none⟩ = some (.int .i64 bno) ∧ w'.cell? ⟨(W.heap.size + 1), 5, none⟩ = some (.slice b1 bnl.length d1))) wx451) := Lib.hid ⟨(HVA.out.on KDx451.out).box.c, (HVB.out.on KDx451.out).box.c⟩
            go_wp2
            refine hK.out _ _ (HSSx451.out) ?_
            clear hK K
            try simp only [Act.put, List.getElem_toArray, List.getElem_cons_succ, List.getElem_cons_zero, List.setIfInBounds_toArray, List.set_cons_zero, List.set_cons_succ]
            refine AnyBut.one (i := 3) (by kernel_rfl) rfl (fun K hK => ?_)
            go_simp
            go_wp2_with fail
            refine (HCB.out _ (HVB.out.on KDx451.out).at_).mono ?_
            rintro e wx4513 ⟨pv, nv, rfl, m1, m2⟩
            obtain ⟨pa3, pc3, rfl⟩ := m1.slice
            obtain ⟨na3, nc3, rfl⟩ := m2.slice
            have KDx4513 := Lib.hid (KDx451.out.trans m1.kept)
            have P3x4513 := Lib.hid (m1.down KDx451.out)
            have Q3x4513 := Lib.hid (m2.down KDx451.out)
            have P1x4513 := Lib.hid (P1x451.out.on m1.kept)
            have Q1x4513 := Lib.hid (Q1x451.out.on m1.kept)
            have B4x4513 := Lib.hid (B4x451.out.same m1.kept (fun x => x))
            have B5x4513 := Lib.hid (B5x451.out.same m1.kept (fun x => x))
            clear m1 m2
            have HSSx4513 : Hid ((fun w' => (w'.cell? ⟨W.heap.size, 0, none⟩ = some (.int .i64 asc) ∧ w'.cell? ⟨W.heap.size, 1, none⟩ = some (.int .u64 (aze : Int)) ∧ w'.cell? ⟨W.heap.size, 2, none⟩ = some (.int .i64 apo) ∧ w'.cell? ⟨W.heap.size, 3, none⟩ = some (.slice ao apl.length c) ∧ w'.cell? ⟨W.heap.size, 4, none⟩ = some (.int .i64 ano) ∧ w'.cell? ⟨W.heap.size, 5, none⟩ = some (.slice a1 anl.length c1)) ∧ (w'.cell? ⟨(W.heap.size + 1), 0, none⟩ = some (.int .i64 bsc) ∧ w'.cell? ⟨(W.heap.size + 1), 1, none⟩ = some (.int .u64 (bze : Int)) ∧ w'.cell? ⟨(W.heap.size + 1), 2, none⟩ = some (.int .i64 bpo) ∧ w'.cell? ⟨(W.heap.size + 1), 3, none⟩ = some (.slice bo bpl.length d) ∧ w'.cell? ⟨(W.heap.size + 1), 4, none⟩ = some (.int .i64 bno) ∧ w'.cell? ⟨(W.heap.size + 1), 5, none⟩ = some (.slice b1 bnl.length d1))) wx4513) := Lib.hid ⟨(HVA.out.on KDx4513.out).box.c, (HVB.out.on KDx4513.out).box.c⟩
            go_wp2
            refine hK.out _ _ (HSSx4513.out) ?_
            clear hK K
            try simp only [Act.put, List.getElem_toArray, List.getElem_cons_succ, List.getElem_cons_zero, List.setIfInBounds_toArray, List.set_cons_zero, List.set_cons_succ]
            refine AnyBut.one (i := 6) (by kernel_rfl) rfl (fun K hK => ?_)
            obtain ⟨z0, z1, z2, z3, z4, z5⟩ := B4x4513.out.c
            have zf := B4x4513.out.f
            simp only at z0 z1 z2 z4
            go_simp
            go_wp2
            have V4x45136 := Lib.hid (B4x4513.out.set ⟨asc, aze, apo, apl, ano, anl⟩ (.slice pa1 (uvals apl).length pc1) (.slice na1 (uvals anl).length nc1))
            have KDx45136 := Lib.hid (KDx4513.out.newer (set6_kept wx4513 q4 (.int .i64 asc) (.int .u64 (aze : Int)) (.int .i64 apo) (.slice pa1 (uvals apl).length pc1) (.int .i64 ano) (.slice na1 (uvals anl).length nc1)) (fun k e => by have := HQ4.out; omega))
            have P1x45136 := Lib.hid (P1x4513.out.set6 B4x4513.out HQ4.out (.int .i64 asc) (.int .u64 (aze : Int)) (.int .i64 apo) (.slice pa1 (uvals apl).length pc1) (.int .i64 ano) (.slice na1 (uvals anl).length nc1))
            have Q1x45136 := Lib.hid (Q1x4513.out.set6 B4x4513.out HQ4.out (.int .i64 asc) (.int .u64 (aze : Int)) (.int .i64 apo) (.slice pa1 (uvals apl).length pc1) (.int .i64 ano) (.slice na1 (uvals anl).length nc1))
            have P3x45136 := Lib.hid (P3x4513.out.set6 B4x4513.out HQ4.out (.int .i64 asc) (.int .u64 (aze : Int)) (.int .i64 apo) (.slice pa1 (uvals apl).length pc1) (.int .i64 ano) (.slice na1 (uvals anl).length nc1))
            have Q3x45136 := Lib.hid (Q3x4513.out.set6 B4x4513.out HQ4.out (.int .i64 asc) (.int .u64 (aze : Int)) (.int .i64 apo) (.slice pa1 (uvals apl).length pc1) (.int .i64 ano) (.slice na1 (uvals anl).length nc1))
            have B5x45136 := Lib.hid (B5x4513.out.same (set6_kept wx4513 q4 (.int .i64 asc) (.int .u64 (aze : Int)) (.int .i64 apo) (.slice pa1 (uvals apl).length pc1) (.int .i64 ano) (.slice na1 (uvals anl).length nc1)) (fun e => by have := HNE.out; omega))
            simp only at V4x45136
            obtain ⟨wx45136, hw⟩ : ∃ w', w' = set6 wx4513 q4 (.int .i64 asc) (.int .u64 (aze : Int)) (.int .i64 apo) (.slice pa1 (uvals apl).length pc1) (.int .i64 ano) (.slice na1 (uvals anl).length nc1) := ⟨_, rfl⟩
            rw [← hw] at V4x45136 KDx45136 P1x45136 Q1x45136 P3x45136 Q3x45136 B5x45136
            unfold set6 at hw
            rw [← hw]
            clear hw z0 z1 z2 z3 z4 z5 zf
            have HSSx45136 : Hid ((fun w' => (w'.cell? ⟨W.heap.size, 0, none⟩ = some (.int .i64 asc) ∧ w'.cell? ⟨W.heap.size, 1, none⟩ = some (.int .u64 (aze : Int)) ∧ w'.cell? ⟨W.heap.size, 2, none⟩ = some (.int .i64 apo) ∧ w'.cell? ⟨W.heap.size, 3, none⟩ = some (.slice ao apl.length c) ∧ w'.cell? ⟨W.heap.size, 4, none⟩ = some (.int .i64 ano) ∧ w'.cell? ⟨W.heap.size, 5, none⟩ = some (.slice a1 anl.length c1)) ∧ (w'.cell? ⟨(W.heap.size + 1), 0, none⟩ = some (.int .i64 bsc) ∧ w'.cell? ⟨(W.heap.size + 1), 1, none⟩ = some (.int .u64 (bze : Int)) ∧ w'.cell? ⟨(W.heap.size + 1), 2, none⟩ = some (.int .i64 bpo) ∧ w'.cell? ⟨(W.heap.size + 1), 3, none⟩ = some (.slice bo bpl.length d) ∧ w'.cell? ⟨(W.heap.size + 1), 4, none⟩ = some (.int .i64 bno) ∧ w'.cell? ⟨(W.heap.size + 1), 5, none⟩ = some (.slice b1 bnl.length d1))) wx45136) := Lib.hid ⟨(HVA.out.on KDx45136.out).box.c, (HVB.out.on KDx45136.out).box.c⟩
            refine hK.out _ _ (HSSx45136.out) ?_
            clear hK K
            try simp only [Act.put, List.getElem_toArray, List.getElem_cons_succ, List.getElem_cons_zero, List.setIfInBounds_toArray, List.set_cons_zero, List.set_cons_succ]
            refine AnyBut.one (i := 7) (by kernel_rfl) rfl (fun K hK => ?_)
            obtain ⟨z0, z1, z2, z3, z4, z5⟩ := B5x45136.out.c
            have zf := B5x45136.out.f
            simp only at z0 z1 z2 z4
            go_simp
            go_wp2
            have V5x451367 := Lib.hid (B5x45136.out.set ⟨bsc, bze, bpo, bpl, bno, bnl⟩ (.slice pa3 (uvals bpl).length pc3) (.slice na3 (uvals bnl).length nc3))
            have KDx451367 := Lib.hid (KDx45136.out.newer (set6_kept wx45136 q5 (.int .i64 bsc) (.int .u64 (bze : Int)) (.int .i64 bpo) (.slice pa3 (uvals bpl).length pc3) (.int .i64 bno) (.slice na3 (uvals bnl).length nc3)) (fun k e => by have := HQ5.out; omega))
            have P1x451367 := Lib.hid (P1x45136.out.set6 B5x45136.out HQ5.out (.int .i64 bsc) (.int .u64 (bze : Int)) (.int .i64 bpo) (.slice pa3 (uvals bpl).length pc3) (.int .i64 bno) (.slice na3 (uvals bnl).length nc3))
            have Q1x451367 := Lib.hid (Q1x45136.out.set6 B5x45136.out HQ5.out (.int .i64 bsc) (.int .u64 (bze : Int)) (.int .i64 bpo) (.slice pa3 (uvals bpl).length pc3) (.int .i64 bno) (.slice na3 (uvals bnl).length nc3))
            have P3x451367 := Lib.hid (P3x45136.out.set6 B5x45136.out HQ5.out (.int .i64 bsc) (.int .u64 (bze : Int)) (.int .i64 bpo) (.slice pa3 (uvals bpl).length pc3) (.int .i64 bno) (.slice na3 (uvals bnl).length nc3))
            have Q3x451367 := Lib.hid (Q3x45136.out.set6 B5x45136.out HQ5.out (.int .i64 bsc) (.int .u64 (bze : Int)) (.int .i64 bpo) (.slice pa3 (uvals bpl).length pc3) (.int .i64 bno) (.slice na3 (uvals bnl).length nc3))
            have V4x451367 := Lib.hid (V4x45136.out.same (set6_kept wx45136 q5 (.int .i64 bsc) (.int .u64 (bze : Int)) (.int .i64 bpo) (.slice pa3 (uvals bpl).length pc3) (.int .i64 bno) (.slice na3 (uvals bnl).length nc3)) (fun e => by have := HNE.out; omega))
            simp only at V5x451367
            obtain ⟨wx451367, hw⟩ : ∃ w', w' = set6 wx45136 q5 (.int .i64 bsc) (.int .u64 (bze : Int)) (.int .i64 bpo) (.slice pa3 (uvals bpl).length pc3) (.int .i64 bno) (.slice na3 (uvals bnl).length nc3) := ⟨_, rfl⟩
            rw [← hw] at V5x451367 KDx451367 P1x451367 Q1x451367 P3x451367 Q3x451367 V4x451367
            unfold set6 at hw
            rw [← hw]
            clear hw z0 z1 z2 z3 z4 z5 zf
            have HSSx451367 : Hid ((fun w' => (w'.cell? ⟨W.heap.size, 0, none⟩ = some (.int .i64 asc) ∧ w'.cell? ⟨W.heap.size, 1, none⟩ = some (.int .u64 (aze : Int)) ∧ w'.cell? ⟨W.heap.size, 2, none⟩ = some (.int .i64 apo) ∧ w'.cell? ⟨W.heap.size, 3, none⟩ = some (.slice ao apl.length c) ∧ w'.cell? ⟨W.heap.size, 4, none⟩ = some (.int .i64 ano) ∧ w'.cell? ⟨W.heap.size, 5, none⟩ = some (.slice a1 anl.length c1)) ∧ (w'.cell? ⟨(W.heap.size + 1), 0, none⟩ = some (.int .i64 bsc) ∧ w'.cell? ⟨(W.heap.size + 1), 1, none⟩ = some (.int .u64 (bze : Int)) ∧ w'.cell? ⟨(W.heap.size + 1), 2, none⟩ = some (.int .i64 bpo) ∧ w'.cell? ⟨(W.heap.size + 1), 3, none⟩ = some (.slice bo bpl.length d) ∧ w'.cell? ⟨(W.heap.size + 1), 4, none⟩ = some (.int .i64 bno) ∧ w'.cell? ⟨(W.heap.size + 1), 5, none⟩ = some (.slice b1 bnl.length d1))) wx451367) := Lib.hid ⟨(HVA.out.on KDx451367.out).box.c, (HVB.out.on KDx451367.out).box.c⟩
            refine hK.out _ _ (HSSx451367.out) ?_
            clear hK K
            try simp only [Act.put, List.getElem_toArray, List.getElem_cons_succ, List.getElem_cons_zero, List.setIfInBounds_toArray, List.set_cons_zero, List.set_cons_succ]
            refine AnyBut.done (by kernel_rfl) ?_
            go_wp2
            go_meet
            exact ⟨q4, q5, _, _, _, _, rfl, rfl, ⟨V4x451367.out, P1x451367.out.at_, Q1x451367.out.at_⟩, ⟨V5x451367.out, P3x451367.out.at_, Q3x451367.out.at_⟩, KDx451367.out⟩
        · go_simp
          have hka := (Kept.refl (fun _ => False) wx).alloc (.cells #[.int .i64 0, .int .u64 0, .int .i64 0, .slice none 0 0, .int .i64 0, .slice none 0 0] 27)
          have KDx5 := Lib.hid (KDx.out.trans hka)
          have B5x5 := Lib.hid (hist_boxed wx zeroH (.slice none 0 0) (.slice none 0 0))
          have HQ5 := Lib.hid (show w3.heap.size ≤ wx.heap.size from KDx.out.size)
          unfold zeroH at B5x5
          simp only at B5x5
          obtain ⟨wx5, hw⟩ : ∃ w', w' = wx.alloc (.cells #[.int .i64 0, .int .u64 0, .int .i64 0, .slice none 0 0, .int .i64 0, .slice none 0 0] 27) := ⟨_, rfl⟩
          obtain ⟨q5, hq⟩ : ∃ x, x = wx.heap.size := ⟨_, rfl⟩
          rw [show (wx.alloc (.cells #[.int .i64 0, .int .u64 ((0 : Nat) : Int), .int .i64 0, .slice none 0 0, .int .i64 0, .slice none 0 0] 27)) = wx5 from hw.symm] at B5x5
          rw [← hw] at KDx5 ⊢
          rw [← hq] at B5x5 HQ5  ⊢
          clear hw hq hka
          have HSSx5 : Hid ((fun w' => (w'.cell? ⟨W.heap.size, 0, none⟩ = some (.int .i64 asc) ∧ w'.cell? ⟨W.heap.size, 1, none⟩ = some (.int .u64 (aze : Int)) ∧ w'.cell? ⟨W.heap.size, 2, none⟩ = some (.int .i64 apo) ∧ w'.cell? ⟨W.heap.size, 3, none⟩ = some (.slice ao apl.length c) ∧ w'.cell? ⟨W.heap.size, 4, none⟩ = some (.int .i64 ano) ∧ w'.cell? ⟨W.heap.size, 5, none⟩ = some (.slice a1 anl.length c1)) ∧ (w'.cell? ⟨(W.heap.size + 1), 0, none⟩ = some (.int .i64 bsc) ∧ w'.cell? ⟨(W.heap.size + 1), 1, none⟩ = some (.int .u64 (bze : Int)) ∧ w'.cell? ⟨(W.heap.size + 1), 2, none⟩ = some (.int .i64 bpo) ∧ w'.cell? ⟨(W.heap.size + 1), 3, none⟩ = some (.slice bo bpl.length d) ∧ w'.cell? ⟨(W.heap.size + 1), 4, none⟩ = some (.int .i64 bno) ∧ w'.cell? ⟨(W.heap.size + 1), 5, none⟩ = some (.slice b1 bnl.length d1))) wx5) := Lib.hid ⟨(HVA.out.on KDx5.out).box.c, (HVB.out.on KDx5.out).box.c⟩
          refine hK.out _ _ (HSSx5.out) ?_
          clear hK K
          try simp only [Act.put, List.getElem_toArray, List.getElem_cons_succ, List.getElem_cons_zero, List.setIfInBounds_toArray, List.set_cons_zero, List.set_cons_succ]
          refine AnyBut.two (i := 1) (j := 4) (by kernel_rfl) rfl rfl (fun K hK => ?_) (fun K hK => ?_)
          · go_simp
            go_wp2_with fail
            refine (HCA.out _ (HVA.out.on KDx5.out).at_).mono ?_
            rintro e wx51 ⟨pv, nv, rfl, m1, m2⟩
            obtain ⟨pa1, pc1, rfl⟩ := m1.slice
            obtain ⟨na1, nc1, rfl⟩ := m2.slice
            have KDx51 := Lib.hid (KDx5.out.trans m1.kept)
            have P1x51 := Lib.hid (m1.down KDx5.out)
            have Q1x51 := Lib.hid (m2.down KDx5.out)
            have B5x51 := Lib.hid (B5x5.out.same m1.kept (fun x => x))
            clear m1 m2
            have HSSx51 : Hid ((fun w' => (w'.cell? ⟨W.heap.size, 0, none⟩ = some (.int .i64 asc) ∧ w'.cell? ⟨W.heap.size, 1, none⟩ = some (.int .u64 (aze : Int)) ∧ w'.cell? ⟨W.heap.size, 2, none⟩ = some (.int .i64 apo) ∧ w'.cell? ⟨W.heap.size, 3, none⟩ = some (.slice ao apl.length c) ∧ w'.cell? ⟨W.heap.size, 4, none⟩ = some (.int .i64 ano) ∧ w'.cell? ⟨W.heap.size, 5, none⟩ = some (.slice a1 anl.length c1)) ∧ (w'.cell? ⟨(W.heap.size + 1), 0, none⟩ = some (.int .i64 bsc) ∧ w'.cell? ⟨(W.heap.size + 1), 1, none⟩ = some (.int .u64 (bze : Int)) ∧ w'.cell? ⟨(W.heap.size + 1), 2, none⟩ = some (.int .i64 bpo) ∧ w'.cell? ⟨(W.heap.size + 1), 3, none⟩ = some (.slice bo bpl.length d) ∧ w'.cell? ⟨(W.heap.size + 1), 4, none⟩ = some (.int .i64 bno) ∧ w'.cell? ⟨(W.heap.size + 1), 5, none⟩ = some (.slice b1 bnl.length d1))) wx51) := Lib.hid ⟨(HVA.out.on KDx51.out).box.c, (HVB.out.on KDx51.out).box.c⟩
            go_wp2
            refine hK.out _ _ (HSSx51.out) ?_
            clear hK K
            try simp only [Act.put, List.getElem_toArray, List.getElem_cons_succ, List.getElem_cons_zero, List.setIfInBounds_toArray, List.set_cons_zero, List.set_cons_succ]
            refine AnyBut.two (i := 3) (j := 4) (by kernel_rfl) rfl rfl (fun K hK => ?_) (fun K hK => ?_)
            · go_simp
              go_wp2_with fail
              refine (HCB.out _ (HVB.out.on KDx51.out).at_).mono ?_
              rintro e wx513 ⟨pv, nv, rfl, m1, m2⟩
              obtain ⟨pa3, pc3, rfl⟩ := m1.slice
              obtain ⟨na3, nc3, rfl⟩ := m2.slice
              have KDx513 := Lib.hid (KDx51.out.trans m1.kept)
              have P3x513 := Lib.hid (m1.down KDx51.out)
              have Q3x513 := Lib.hid (m2.down KDx51.out)
              have P1x513 := Lib.hid (P1x51.out.on m1.kept)
              have Q1x513 := Lib.hid (Q1x51.out.on m1.kept)
              have B5x513 := Lib.hid (B5x51.out.same m1.kept (fun x => x))
              clear m1 m2
              have HSSx513 : Hid ((fun w' => (w'.cell? ⟨W.heap.size, 0, none⟩ = some (.int .i64 asc) ∧ w'.cell? ⟨W.heap.size, 1, none⟩ = some (.int .u64 (aze : Int)) ∧ w'.cell? ⟨W.heap.size, 2, none⟩ = some (.int .i64 apo) ∧ w'.cell? ⟨W.heap.size, 3, none⟩ = some (.slice ao apl.length c) ∧ w'.cell? ⟨W.heap.size, 4, none⟩ = some (.int .i64 ano) ∧ w'.cell? ⟨W.heap.size, 5, none⟩ = some (.slice a1 anl.length c1)) ∧ (w'.cell? ⟨(W.heap.size + 1), 0, none⟩ = some (.int .i64 bsc) ∧ w'.cell? ⟨(W.heap.size + 1), 1, none⟩ = some (.int .u64 (bze : Int)) ∧ w'.cell? ⟨(W.heap.size + 1), 2, none⟩ = some (.int .i64 bpo) ∧ w'.cell? ⟨(W.heap.size + 1), 3, none⟩ = some (.slice bo bpl.length d) ∧ w'.cell? ⟨(W.heap.size + 1), 4, none⟩ = some (.int .i64 bno) ∧ w'.cell? ⟨(W.heap.size + 1), 5, none⟩ = some (.slice b1 bnl.length d1))) wx513) := Lib.hid ⟨(HVA.out.on KDx513.out).box.c, (HVB.out.on KDx513.out).box.c⟩
              go_wp2
              refine hK.out _ _ (HSSx513.out) ?_
              clear hK K
              try simp only [Act.put, List.getElem_toArray, List.getElem_cons_succ, List.getElem_cons_zero, List.setIfInBounds_toArray, List.set_cons_zero, List.set_cons_succ]
              refine AnyBut.one (i := 4) (by kernel_rfl) rfl (fun K hK => ?_)
              go_simp
              have hka := (Kept.refl (fun _ => False) wx513).alloc (.cells #[.int .i64 0, .int .u64 0, .int .i64 0, .slice none 0 0, .int .i64 0, .slice none 0 0] 27)
              have KDx5134 := Lib.hid (KDx513.out.trans hka)
              have B4x5134 := Lib.hid (hist_boxed wx513 zeroH (.slice none 0 0) (.slice none 0 0))
              have HQ4 := Lib.hid (show w3.heap.size ≤ wx513.heap.size from KDx513.out.size)
              have HNE := Lib.hid (show q5 ≠ wx513.heap.size from fun e => by have := (Array.getElem?_eq_some_iff.1 B5x513.out).1; omega)
              have P1x5134 := Lib.hid (P1x513.out.on hka)
              have Q1x5134 := Lib.hid (Q1x513.out.on hka)
              have P3x5134 := Lib.hid (P3x513.out.on hka)
              have Q3x5134 := Lib.hid (Q3x513.out.on hka)
              have B5x5134 := Lib.hid (B5x513.out.same hka (fun x => x))
              unfold zeroH at B4x5134
              simp only at B4x5134
              obtain ⟨wx5134, hw⟩ : ∃ w', w' = wx513.alloc (.cells #[.int .i64 0, .int .u64 0, .int .i64 0, .slice none 0 0, .int .i64 0, .slice none 0 0] 27) := ⟨_, rfl⟩
              obtain ⟨q4, hq⟩ : ∃ x, x = wx513.heap.size := ⟨_, rfl⟩
              rw [show (wx513.alloc (.cells #[.int .i64 0, .int .u64 ((0 : Nat) : Int), .int .i64 0, .slice none 0 0, .int .i64 0, .slice none 0 0] 27)) = wx5134 from hw.symm] at B4x5134
              rw [← hw] at KDx5134 P1x5134 Q1x5134 P3x5134 Q3x5134 B5x5134 ⊢
              rw [← hq] at B4x5134 HQ4 HNE ⊢
              clear hw hq hka
              have HSSx5134 : Hid ((fun w' => (w'.cell? ⟨W.heap.size, 0, none⟩ = some (.int .i64 asc) ∧ w'.cell? ⟨W.heap.size, 1, none⟩ = some (.int .u64 (aze : Int)) ∧ w'.cell? ⟨W.heap.size, 2, none⟩ = some (.int .i64 apo) ∧ w'.cell? ⟨W.heap.size, 3, none⟩ = some (.slice ao apl.length c) ∧ w'.cell? ⟨W.heap.size, 4, none⟩ = some (.int .i64 ano) ∧ w'.cell? ⟨W.heap.size, 5, none⟩ = some (.slice a1 anl.length c1)) ∧ (w'.cell? ⟨(W.heap.size + 1), 0, none⟩ = some (.int .i64 bsc) ∧ w'.cell? ⟨(W.heap.size + 1), 1, none⟩ = some (.int .u64 (bze : Int)) ∧ w'.cell? ⟨(W.heap.size + 1), 2, none⟩ = some (.int .i64 bpo) ∧ w'.cell? ⟨(W.heap.size + 1), 3, none⟩ = some (.slice bo bpl.length d) ∧ w'.cell? ⟨(W.heap.size + 1), 4, none⟩ = some (.int .i64 bno) ∧ w'.cell? ⟨(W.heap.size + 1), 5, none⟩ = some (.slice b1 bnl.length d1))) wx5134) := Lib.hid ⟨(HVA.out.on KDx5134.out).box.c, (HVB.out.on KDx5134.out).box.c⟩
              refine hK.out _ _ (HSSx5134.out) ?_
              clear hK K
              try simp only [Act.put, List.getElem_toArray, List.getElem_cons_succ, List.getElem_cons_zero, List.setIfInBounds_toArray, List.set_cons_zero, List.set_cons_succ]
              refine AnyBut.one (i := 6) (by kernel_rfl) rfl (fun K hK => ?_)
              obtain ⟨z0, z1, z2, z3, z4, z5⟩ := B4x5134.out.c
              have zf := B4x5134.out.f
              simp only at z0 z1 z2 z4
              go_simp
              go_wp2
              have V4x51346 := Lib.hid (B4x5134.out.set ⟨asc, aze, apo, apl, ano, anl⟩ (.slice pa1 (uvals apl).length pc1) (.slice na1 (uvals anl).length nc1))
              have KDx51346 := Lib.hid (KDx5134.out.newer (set6_kept wx5134 q4 (.int .i64 asc) (.int .u64 (aze : Int)) (.int .i64 apo) (.slice pa1 (uvals apl).length pc1) (.int .i64 ano) (.slice na1 (uvals anl).length nc1)) (fun k e => by have := HQ4.out; omega))
              have P1x51346 := Lib.hid (P1x5134.out.set6 B4x5134.out HQ4.out (.int .i64 asc) (.int .u64 (aze : Int)) (.int .i64 apo) (.slice pa1 (uvals apl).length pc1) (.int .i64 ano) (.slice na1 (uvals anl).length nc1))
              have Q1x51346 := Lib.hid (Q1x5134.out.set6 B4x5134.out HQ4.out (.int .i64 asc) (.int .u64 (aze : Int)) (.int .i64 apo) (.slice pa1 (uvals apl).length pc1) (.int .i64 ano) (.slice na1 (uvals anl).length nc1))
              have P3x51346 := Lib.hid (P3x5134.out.set6 B4x5134.out HQ4.out (.int .i64 asc) (.int .u64 (aze : Int)) (.int .i64 apo) (.slice pa1 (uvals apl).length pc1) (.int .i64 ano) (.slice na1 (uvals anl).length nc1))
              have Q3x51346 := Lib.hid (Q3x5134.out.set6 B4x5134.out HQ4.out (.int .i64 asc) (.int .u64 (aze : Int)) (.int .i64 apo) (.slice pa1 (uvals apl).length pc1) (.int .i64 ano) (.slice na1 (uvals anl).length nc1))
              have B5x51346 := Lib.hid (B5x5134.out.same (set6_kept wx5134 q4 (.int .i64 asc) (.int .u64 (aze : Int)) (.int .i64 apo) (.slice pa1 (uvals apl).length pc1) (.int .i64 ano) (.slice na1 (uvals anl).length nc1)) (fun e => by have := HNE.out; omega))
              simp only at V4x51346
              obtain ⟨wx51346, hw⟩ : ∃ w', w' = set6 wx5134 q4 (.int .i64 asc) (.int .u64 (aze : Int)) (.int .i64 apo) (.slice pa1 (uvals apl).length pc1) (.int .i64 ano) (.slice na1 (uvals anl).length nc1) := ⟨_, rfl⟩
              rw [← hw] at V4x51346 KDx51346 P1x51346 Q1x51346 P3x51346 Q3x51346 B5x51346
              unfold set6 at hw
              rw [← hw]
              clear hw z0 z1 z2 z3 z4 z5 zf
              have HSSx51346 : Hid ((fun w' => (w'.cell? ⟨W.heap.size, 0, none⟩ = some (.int .i64 asc) ∧ w'.cell? ⟨W.heap.size, 1, none⟩ = some (.int .u64 (aze : Int)) ∧ w'.cell? ⟨W.heap.size, 2, none⟩ = some (.int .i64 apo) ∧ w'.cell? ⟨W.heap.size, 3, none⟩ = some (.slice ao apl.length c) ∧ w'.cell? ⟨W.heap.size, 4, none⟩ = some (.int .i64 ano) ∧ w'.cell? ⟨W.heap.size, 5, none⟩ = some (.slice a1 anl.length c1)) ∧ (w'.cell? ⟨(W.heap.size + 1), 0, none⟩ = some (.int .i64 bsc) ∧ w'.cell? ⟨(W.heap.size + 1), 1, none⟩ = some (.int .u64 (bze : Int)) ∧ w'.cell? ⟨(W.heap.size + 1), 2, none⟩ = some (.int .i64 bpo) ∧ w'.cell? ⟨(W.heap.size + 1), 3, none⟩ = some (.slice bo bpl.length d) ∧ w'.cell? ⟨(W.heap.size + 1), 4, none⟩ = some (.int .i64 bno) ∧ w'.cell? ⟨(W.heap.size + 1), 5, none⟩ = some (.slice b1 bnl.length d1))) wx51346) := Lib.hid ⟨(HVA.out.on KDx51346.out).box.c, (HVB.out.on KDx51346.out).box.c⟩
              refine hK.out _ _ (HSSx51346.out) ?_
              clear hK K
              try simp only [Act.put, List.getElem_toArray, List.getElem_cons_succ, List.getElem_cons_zero, List.setIfInBounds_toArray, List.set_cons_zero, List.set_cons_succ]
              refine AnyBut.one (i := 7) (by kernel_rfl) rfl (fun K hK => ?_)
              obtain ⟨z0, z1, z2, z3, z4, z5⟩ := B5x51346.out.c
              have zf := B5x51346.out.f
              simp only at z0 z1 z2 z4
              go_simp
              go_wp2
              have V5x513467 := Lib.hid (B5x51346.out.set ⟨bsc, bze, bpo, bpl, bno, bnl⟩ (.slice pa3 (uvals bpl).length pc3) (.slice na3 (uvals bnl).length nc3))
              have KDx513467 := Lib.hid (KDx51346.out.newer (set6_kept wx51346 q5 (.int .i64 bsc) (.int .u64 (bze : Int)) (.int .i64 bpo) (.slice pa3 (uvals bpl).length pc3) (.int .i64 bno) (.slice na3 (uvals bnl).length nc3)) (fun k e => by have := HQ5.out; omega))
              have P1x513467 := Lib.hid (P1x51346.out.set6 B5x51346.out HQ5.out (.int .i64 bsc) (.int .u64 (bze : Int)) (.int .i64 bpo) (.slice pa3 (uvals bpl).length pc3) (.int .i64 bno) (.slice na3 (uvals bnl).length nc3))
              have Q1x513467 := Lib.hid (Q1x51346.out.set6 B5x51346.out HQ5.out (.int .i64 bsc) (.int .u64 (bze : Int)) (.int .i64 bpo) (.slice pa3 (uvals bpl).length pc3) (.int .i64 bno) (.slice na3 (uvals bnl).length nc3))
              have P3x513467 := Lib.hid (P3x51346.out.set6 B5x51346.out HQ5.out (.int .i64 bsc) (.int .u64 (bze : Int)) (.int .i64 bpo) (.slice pa3 (uvals bpl).length pc3) (.int .i64 bno) (.slice na3 (uvals bnl).length nc3))
              have Q3x513467 := Lib.hid (Q3x51346.out.set6 B5x51346.out HQ5.out (.int .i64 bsc) (.int .u64 (bze : Int)) (.int .i64 bpo) (.slice pa3 (uvals bpl).length pc3) (.int .i64 bno) (.slice na3 (uvals bnl).length nc3))
              have V4x513467 := Lib.hid (V4x51346.out.same (set6_kept wx51346 q5 (.int .i64 bsc) (.int .u64 (bze : Int)) (.int .i64 bpo) (.slice pa3 (uvals bpl).length pc3) (.int .i64 bno) (.slice na3 (uvals bnl).length nc3)) (fun e => by have := HNE.out; omega))
              simp only at V5x513467
              obtain ⟨wx513467, hw⟩ : ∃ w', w' = set6 wx51346 q5 (.int .i64 bsc) (.int .u64 (bze : Int)) (.int .i64 bpo) (.slice pa3 (uvals bpl).length pc3) (.int .i64 bno) (.slice na3 (uvals bnl).length nc3) := ⟨_, rfl⟩
              rw [← hw] at V5x513467 KDx513467 P1x513467 Q1x513467 P3x513467 Q3x513467 V4x513467
              unfold set6 at hw
              rw [← hw]
              clear hw z0 z1 z2 z3 z4 z5 zf
              have HSSx513467 : Hid ((fun w' => (w'.cell? ⟨W.heap.size, 0, none⟩ = some (.int .i64 asc) ∧ w'.cell? ⟨W.heap.size, 1, none⟩ = some (.int .u64 (aze : Int)) ∧ w'.cell? ⟨W.heap.size, 2, none⟩ = some (.int .i64 apo) ∧ w'.cell? ⟨W.heap.size, 3, none⟩ = some (.slice ao apl.length c) ∧ w'.cell? ⟨W.heap.size, 4, none⟩ = some (.int .i64 ano) ∧ w'.cell? ⟨W.heap.size, 5, none⟩ = some (.slice a1 anl.length c1)) ∧ (w'.cell? ⟨(W.heap.size + 1), 0, none⟩ = some (.int .i64 bsc) ∧ w'.cell? ⟨(W.heap.size + 1), 1, none⟩ = some (.int .u64 (bze : Int)) ∧ w'.cell? ⟨(W.heap.size + 1), 2, none⟩ = some (.int .i64 bpo) ∧ w'.cell? ⟨(W.heap.size + 1), 3, none⟩ = some (.slice bo bpl.length d) ∧ w'.cell? ⟨(W.heap.size + 1), 4, none⟩ = some (.int .i64 bno) ∧ w'.cell? ⟨(W.heap.size + 1), 5, none⟩ = some (.slice b1 bnl.length d1))) wx513467) := Lib.hid ⟨(HVA.out.on KDx513467.out).box.c, (HVB.out.on KDx513467.out).box.c⟩
              refine hK.out _ _ (HSSx513467.out) ?_
              clear hK K
              try simp only [Act.put, List.getElem_toArray, List.getElem_cons_succ, List.getElem_cons_zero, List.setIfInBounds_toArray, List.set_cons_zero, List.set_cons_succ]
              refine AnyBut.done (by kernel_rfl) ?_
              go_wp2
              go_meet
              exact ⟨q4, q5, _, _, _, _, rfl, rfl, ⟨V4x513467.out, P1x513467.out.at_, Q1x513467.out.at_⟩, ⟨V5x513467.out, P3x513467.out.at_, Q3x513467.out.at_⟩, KDx513467.out⟩
            · go_simp
              have hka := (Kept.refl (fun _ => False) wx51).alloc (.cells #[.int .i64 0, .int .u64 0, .int .i64 0, .slice none 0 0, .int .i64 0, .slice none 0 0] 27)
              have KDx514 := Lib.hid (KDx51.out.trans hka)
              have B4x514 := Lib.hid (hist_boxed wx51 zeroH (.slice none 0 0) (.slice none 0 0))
              have HQ4 := Lib.hid (show w3.heap.size ≤ wx51.heap.size from KDx51.out.size)
              have HNE := Lib.hid (show q5 ≠ wx51.heap.size from fun e => by have := (Array.getElem?_eq_some_iff.1 B5x51.out).1; omega)
              have P1x514 := Lib.hid (P1x51.out.on hka)
              have Q1x514 := Lib.hid (Q1x51.out.on hka)
              have B5x514 := Lib.hid (B5x51.out.same hka (fun x => x))
              unfold zeroH at B4x514
              simp only at B4x514
              obtain ⟨wx514, hw⟩ : ∃ w', w' = wx51.alloc (.cells #[.int .i64 0, .int .u64 0, .int .i64 0, .slice none 0 0, .int .i64 0, .slice none 0 0] 27) := ⟨_, rfl⟩
              obtain ⟨q4, hq⟩ : ∃ x, x = wx51.heap.size := ⟨_, rfl⟩
              rw [show (wx51.alloc (.cells #[.int .i64 0, .int .u64 ((0 : Nat) : Int), .int .i64 0, .slice none 0 0, .int .i64 0, .slice none 0 0] 27)) = wx514 from hw.symm] at B4x514
              rw [← hw] at KDx514 P1x514 Q1x514 B5x514 ⊢
              rw [← hq] at B4x514 HQ4 HNE ⊢
              clear hw hq hka
              have HSSx514 : Hid ((fun w' => (w'.cell? ⟨W.heap.size, 0, none⟩ = some (.int .i64 asc) ∧ w'.cell? ⟨W.heap.size, 1, none⟩ = some (.int .u64 (aze : Int)) ∧ w'.cell? ⟨W.heap.size, 2, none⟩ = some (.int .i64 apo) ∧ w'.cell? ⟨W.heap.size, 3, none⟩ = some (.slice ao apl.length c) ∧ w'.cell? ⟨W.heap.size, 4, none⟩ = some (.int .i64 ano) ∧ w'.cell? ⟨W.heap.size, 5, none⟩ = some (.slice a1 anl.length c1)) ∧ (w'.cell? ⟨(W.heap.size + 1), 0, none⟩ = some (.int .i64 bsc) ∧ w'.cell? ⟨(W.heap.size + 1), 1, none⟩ = some (.int .u64 (bze : Int)) ∧ w'.cell? ⟨(W.heap.size + 1), 2, none⟩ = some (.int .i64 bpo) ∧ w'.cell? ⟨(W.heap.size + 1), 3, none⟩ = some (.slice bo bpl.length d) ∧ w'.cell? ⟨(W.heap.size + 1), 4, none⟩ = some (.int .i64 bno) ∧ w'.cell? ⟨(W.heap.size + 1), 5, none⟩ = some (.slice b1 bnl.length d1))) wx514) := Lib.hid ⟨(HVA.out.on KDx514.out).box.c, (HVB.out.on KDx514.out).box.c⟩
              refine hK.out _ _ (HSSx514.out) ?_
              clear hK K
              try simp only [Act.put, List.getElem_toArray, List.getElem_cons_succ, List.getElem_cons_zero, List.setIfInBounds_toArray, List.set_cons_zero, List.set_cons_succ]
              refine AnyBut.one (i := 3) (by kernel_rfl) rfl (fun K hK => ?_)
              go_simp
              go_wp2_with fail
              refine (HCB.out _ (HVB.out.on KDx514.out).at_).mono ?_
              rintro e wx5143 ⟨pv, nv, rfl, m1, m2⟩
              obtain ⟨pa3, pc3, rfl⟩ := m1.slice
              obtain ⟨na3, nc3, rfl⟩ := m2.slice
              have KDx5143 := Lib.hid (KDx514.out.trans m1.kept)
              have P3x5143 := Lib.hid (m1.down KDx514.out)
              have Q3x5143 := Lib.hid (m2.down KDx514.out)
              have P1x5143 := Lib.hid (P1x514.out.on m1.kept)
              have Q1x5143 := Lib.hid (Q1x514.out.on m1.kept)
              have B4x5143 := Lib.hid (B4x514.out.same m1.kept (fun x => x))
              have B5x5143 := Lib.hid (B5x514.out.same m1.kept (fun x => x))
              clear m1 m2
              have HSSx5143 : Hid ((fun w' => (w'.cell? ⟨W.heap.size, 0, none⟩ = some (.int .i64 asc) ∧ w'.cell? ⟨W.heap.size, 1, none⟩ = some (.int .u64 (aze : Int)) ∧ w'.cell? ⟨W.heap.size, 2, none⟩ = some (.int .i64 apo) ∧ w'.cell? ⟨W.heap.size, 3, none⟩ = some (.slice ao apl.length c) ∧ w'.cell? ⟨W.heap.size, 4, none⟩ = some (.int .i64 ano) ∧ w'.cell? ⟨W.heap.size, 5, none⟩ = some (.slice a1 anl.length c1)) ∧ (w'.cell? ⟨(W.heap.size + 1), 0, none⟩ = some (.int .i64 bsc) ∧ w'.cell? ⟨(W.heap.size + 1), 1, none⟩ = some (.int .u64 (bze : Int)) ∧ w'.cell? ⟨(W.heap.size + 1), 2, none⟩ = some (.int .i64 bpo) ∧ w'.cell? ⟨(W.heap.size + 1), 3, none⟩ = some (.slice bo bpl.length d) ∧ w'.cell? ⟨(W.heap.size + 1), 4, none⟩ = some (.int .i64 bno) ∧ w'.cell? ⟨(W.heap.size + 1), 5, none⟩ = some (.slice b1 bnl.length d1))) wx5143) := Lib.hid ⟨(HVA.out.on KDx5143.out).box.c, (HVB.out.on KDx5143.out).box.c⟩
              go_wp2
              refine hK.out _ _ (HSSx5143.out) ?_
              clear hK K
              try simp only [Act.put, List.getElem_toArray, List.getElem_cons_succ, List.getElem_cons_zero, List.setIfInBounds_toArray, List.set_cons_zero, List.set_cons_succ]
              refine AnyBut.one (i := 6) (by kernel_rfl) rfl (fun K hK => ?_)
              obtain ⟨z0, z1, z2, z3, z4, z5⟩ := B4x5143.out.c
              have zf := B4x5143.out.f
              simp only at z0 z1 z2 z4
              go_simp
              go_wp2
              have V4x51436 := Lib.hid (B4x5143.out.set ⟨asc, aze, apo, apl, ano, anl⟩ (.slice pa1 (uvals apl).length pc1) (.slice na1 (uvals anl).length nc1))
              have KDx51436 := Lib.hid (KDx5143.out.newer (set6_kept wx5143 q4 (.int .i64 asc) (.int .u64 (aze : Int)) (.int .i64 apo) (.slice pa1 (uvals apl).length pc1) (.int .i64 ano) (.slice na1 (uvals anl).length nc1)) (fun k e => by have := HQ4.out; omega))
              have P1x51436 := Lib.hid (P1x5143.out.set6 B4x5143.out HQ4.out (.int .i64 asc) (.int .u64 (aze : Int)) (.int .i64 apo) (.slice pa1 (uvals apl).length pc1) (.int .i64 ano) (.slice na1 (uvals anl).length nc1))
              have Q1x51436 := Lib.hid (Q1x5143.out.set6 B4x5143.out HQ4.out (.int .i64 asc) (.int .u64 (aze : Int)) (.int .i64 apo) (.slice pa1 (uvals apl).length pc1) (.int .i64 ano) (.slice na1 (uvals anl).length nc1))
              have P3x51436 := Lib.hid (P3x5143.out.set6 B4x5143.out HQ4.out (.int .i64 asc) (.int .u64 (aze : Int)) (.int .i64 apo) (.slice pa1 (uvals apl).length pc1) (.int .i64 ano) (.slice na1 (uvals anl).length nc1))
              have Q3x51436 := Lib.hid (Q3x5143.out.set6 B4x5143.out HQ4.out (.int .i64 asc) (.int .u64 (aze : Int)) (.int .i64 apo) (.slice pa1 (uvals apl).length pc1) (.int .i64 ano) (.slice na1 (uvals anl).length nc1))
              have B5x51436 := Lib.hid (B5x5143.out.same (set6_kept wx5143 q4 (.int .i64 asc) (.int .u64 (aze : Int)) (.int .i64 apo) (.slice pa1 (uvals apl).length pc1) (.int .i64 ano) (.slice na1 (uvals anl).length nc1)) (fun e => by have := HNE.out; omega))
              simp only at V4x51436
              obtain ⟨wx51436, hw⟩ : ∃ w', w' = set6 wx5143 q4 (.int .i64 asc) (.int .u64 (aze : Int)) (.int .i64 apo) (.slice pa1 (uvals apl).length pc1) (.int .i64 ano) (.slice na1 (uvals anl).length nc1) := ⟨_, rfl⟩
              rw [← hw] at V4x51436 KDx51436 P1x51436 Q1x51436 P3x51436 Q3x51436 B5x51436
              unfold set6 at hw
              rw [← hw]
              clear hw z0 z1 z2 z3 z4 z5 zf
              have HSSx51436 : Hid ((fun w' => (w'.cell? ⟨W.heap.size, 0, none⟩ = some (.int .i64 asc) ∧ w'.cell? ⟨W.heap.size, 1, none⟩ = some (.int .u64 (aze : Int)) ∧ w'.cell? ⟨W.heap.size, 2, none⟩ = some (.int .i64 apo) ∧ w'.cell? ⟨W.heap.size, 3, none⟩ = some (.slice ao apl.length c) ∧ w'.cell? ⟨W.heap.size, 4, none⟩ = some (.int .i64 ano) ∧ w'.cell? ⟨W.heap.size, 5, none⟩ = some (.slice a1 anl.length c1)) ∧ (w'.cell? ⟨(W.heap.size + 1), 0, none⟩ = some (.int .i64 bsc) ∧ w'.cell? ⟨(W.heap.size + 1), 1, none⟩ = some (.int .u64 (bze : Int)) ∧ w'.cell? ⟨(W.heap.size + 1), 2, none⟩ = some (.int .i64 bpo) ∧ w'.cell? ⟨(W.heap.size + 1), 3, none⟩ = some (.slice bo bpl.length d) ∧ w'.cell? ⟨(W.heap.size + 1), 4, none⟩ = some (.int .i64 bno) ∧ w'.cell? ⟨(W.heap.size + 1), 5, none⟩ = some (.slice b1 bnl.length d1))) wx51436) := Lib.hid ⟨(HVA.out.on KDx51436.out).box.c, (HVB.out.on KDx51436.out).box.c⟩
              refine hK.out _ _ (HSSx51436.out) ?_
              clear hK K
              try simp only [Act.put, List.getElem_toArray, List.getElem_cons_succ, List.getElem_cons_zero, List.setIfInBounds_toArray, List.set_cons_zero, List.set_cons_succ]
              refine AnyBut.one (i := 7) (by kernel_rfl) rfl (fun K hK => ?_)
              obtain ⟨z0, z1, z2, z3, z4, z5⟩ := B5x51436.out.c
              have zf := B5x51436.out.f
              simp only at z0 z1 z2 z4
              go_simp
              go_wp2
              have V5x514367 := Lib.hid (B5x51436.out.set ⟨bsc, bze, bpo, bpl, bno, bnl⟩ (.slice pa3 (uvals bpl).length pc3) (.slice na3 (uvals bnl).length nc3))
              have KDx514367 := Lib.hid (KDx51436.out.newer (set6_kept wx51436 q5 (.int .i64 bsc) (.int .u64 (bze : Int)) (.int .i64 bpo) (.slice pa3 (uvals bpl).length pc3) (.int .i64 bno) (.slice na3 (uvals bnl).length nc3)) (fun k e => by have := HQ5.out; omega))
              have P1x514367 := Lib.hid (P1x51436.out.set6 B5x51436.out HQ5.out (.int .i64 bsc) (.int .u64 (bze : Int)) (.int .i64 bpo) (.slice pa3 (uvals bpl).length pc3) (.int .i64 bno) (.slice na3 (uvals bnl).length nc3))
              have Q1x514367 := Lib.hid (Q1x51436.out.set6 B5x51436.out HQ5.out (.int .i64 bsc) (.int .u64 (bze : Int)) (.int .i64 bpo) (.slice pa3 (uvals bpl).length pc3) (.int .i64 bno) (.slice na3 (uvals bnl).length nc3))
              have P3x514367 := Lib.hid (P3x51436.out.set6 B5x51436.out HQ5.out (.int .i64 bsc) (.int .u64 (bze : Int)) (.int .i64 bpo) (.slice pa3 (uvals bpl).length pc3) (.int .i64 bno) (.slice na3 (uvals bnl).length nc3))
              have Q3x514367 := Lib.hid (Q3x51436.out.set6 B5x51436.out HQ5.out (.int .i64 bsc) (.int .u64 (bze : Int)) (.int .i64 bpo) (.slice pa3 (uvals bpl).length pc3) (.int .i64 bno) (.slice na3 (uvals bnl).length nc3))
              have V4x514367 := Lib.hid (V4x51436.out.same (set6_kept wx51436 q5 (.int .i64 bsc) (.int .u64 (bze : Int)) (.int .i64 bpo) (.slice pa3 (uvals bpl).length pc3) (.int .i64 bno) (.slice na3 (uvals bnl).length nc3)) (fun e => by have := HNE.out; omega))
              simp only at V5x514367
              obtain ⟨wx514367, hw⟩ : ∃ w', w' = set6 wx51436 q5 (.int .i64 bsc) (.int .u64 (bze : Int)) (.int .i64 bpo) (.slice pa3 (uvals bpl).length pc3) (.int .i64 bno) (.slice na3 (uvals bnl).length nc3) := ⟨_, rfl⟩
              rw [← hw] at V5x514367 KDx514367 P1x514367 Q1x514367 P3x514367 Q3x514367 V4x514367
              unfold set6 at hw
              rw [← hw]
              clear hw z0 z1 z2 z3 z4 z5 zf
              have HSSx514367 : Hid ((fun w' => (w'.cell? ⟨W.heap.size, 0, none⟩ = some (.int .i64 asc) ∧ w'.cell? ⟨W.heap.size, 1, none⟩ = some (.int .u64 (aze : Int)) ∧ w'.cell? ⟨W.heap.size, 2, none⟩ = some (.int .i64 apo) ∧ w'.cell? ⟨W.heap.size, 3, none⟩ = some (.slice ao apl.length c) ∧ w'.cell? ⟨W.heap.size, 4, none⟩ = some (.int .i64 ano) ∧ w'.cell? ⟨W.heap.size, 5, none⟩ = some (.slice a1 anl.length c1)) ∧ (w'.cell? ⟨(W.heap.size + 1), 0, none⟩ = some (.int .i64 bsc) ∧ w'.cell? ⟨(W.heap.size + 1), 1, none⟩ = some (.int .u64 (bze : Int)) ∧ w'.cell? ⟨(W.heap.size + 1), 2, none⟩ = some (.int .i64 bpo) ∧ w'.cell? ⟨(W.heap.size + 1), 3, none⟩ = some (.slice bo bpl.length d) ∧ w'.cell? ⟨(W.heap.size + 1), 4, none⟩ = some (.int .i64 bno) ∧ w'.cell? ⟨(W.heap.size + 1), 5, none⟩ = some (.slice b1 bnl.length d1))) wx514367) := Lib.hid ⟨(HVA.out.on KDx514367.out).box.c, (HVB.out.on KDx514367.out).box.c⟩
              refine hK.out _ _ (HSSx514367.out) ?_
              clear hK K
              try simp only [Act.put, List.getElem_toArray, List.getElem_cons_succ, List.getElem_cons_zero, List.setIfInBounds_toArray, List.set_cons_zero, List.set_cons_succ]
              refine AnyBut.done (by kernel_rfl) ?_
              go_wp2
              go_meet
              exact ⟨q4, q5, _, _, _, _, rfl, rfl, ⟨V4x514367.out, P1x514367.out.at_, Q1x514367.out.at_⟩, ⟨V5x514367.out, P3x514367.out.at_, Q3x514367.out.at_⟩, KDx514367.out⟩
          · go_simp
            have hka := (Kept.refl (fun _ => False) wx5).alloc (.cells #[.int .i64 0, .int .u64 0, .int .i64 0, .slice none 0 0, .int .i64 0, .slice none 0 0] 27)
            have KDx54 := Lib.hid (KDx5.out.trans hka)
            have B4x54 := Lib.hid (hist_boxed wx5 zeroH (.slice none 0 0) (.slice none 0 0))
            have HQ4 := Lib.hid (show w3.heap.size ≤ wx5.heap.size from KDx5.out.size)
            have HNE := Lib.hid (show q5 ≠ wx5.heap.size from fun e => by have := (Array.getElem?_eq_some_iff.1 B5x5.out).1; omega)
            have B5x54 := Lib.hid (B5x5.out.same hka (fun x => x))
            unfold zeroH at B4x54
            simp only at B4x54
            obtain ⟨wx54, hw⟩ : ∃ w', w' = wx5.alloc (.cells #[.int .i64 0, .int .u64 0, .int .i64 0, .slice none 0 0, .int .i64 0, .slice none 0 0] 27) := ⟨_, rfl⟩
            obtain ⟨q4, hq⟩ : ∃ x, x = wx5.heap.size := ⟨_, rfl⟩
            rw [show (wx5.alloc (.cells #[.int .i64 0, .int .u64 ((0 : Nat) : Int), .int .i64 0, .slice none 0 0, .int .i64 0, .slice none 0 0] 27)) = wx54 from hw.symm] at B4x54
            rw [← hw] at KDx54 B5x54 ⊢
            rw [← hq] at B4x54 HQ4 HNE ⊢
            clear hw hq hka
            have HSSx54 : Hid ((fun w' => (w'.cell? ⟨W.heap.size, 0, none⟩ = some (.int .i64 asc) ∧ w'.cell? ⟨W.heap.size, 1, none⟩ = some (.int .u64 (aze : Int)) ∧ w'.cell? ⟨W.heap.size, 2, none⟩ = some (.int .i64 apo) ∧ w'.cell? ⟨W.heap.size, 3, none⟩ = some (.slice ao apl.length c) ∧ w'.cell? ⟨W.heap.size, 4, none⟩ = some (.int .i64 ano) ∧ w'.cell? ⟨W.heap.size, 5, none⟩ = some (.slice a1 anl.length c1)) ∧ (w'.cell? ⟨(W.heap.size + 1), 0, none⟩ = some (.int .i64 bsc) ∧ w'.cell? ⟨(W.heap.size + 1), 1, none⟩ = some (.int .u64 (bze : Int)) ∧ w'.cell? ⟨(W.heap.size + 1), 2, none⟩ = some (.int .i64 bpo) ∧ w'.cell? ⟨(W.heap.size + 1), 3, none⟩ = some (.slice bo bpl.length d) ∧ w'.cell? ⟨(W.heap.size + 1), 4, none⟩ = some (.int .i64 bno) ∧ w'.cell? ⟨(W.heap.size + 1), 5, none⟩ = some (.slice b1 bnl.length d1))) wx54) := Lib.hid ⟨(HVA.out.on KDx54.out).box.c, (HVB.out.on KDx54.out).box.c⟩
            refine hK.out _ _ (HSSx54.out) ?_
            clear hK K
            try simp only [Act.put, List.getElem_toArray, List.getElem_cons_succ, List.getElem_cons_zero, List.setIfInBounds_toArray, List.set_cons_zero, List.set_cons_succ]
            refine AnyBut.one (i := 1) (by kernel_rfl) rfl (fun K hK => ?_)
            go_simp
            go_wp2_with fail
            refine (HCA.out _ (HVA.out.on KDx54.out).at_).mono ?_
            rintro e wx541 ⟨pv, nv, rfl, m1, m2⟩
            obtain ⟨pa1, pc1, rfl⟩ := m1.slice
            obtain ⟨na1, nc1, rfl⟩ := m2.slice
            have KDx541 := Lib.hid (KDx54.out.trans m1.kept)
            have P1x541 := Lib.hid (m1.down KDx54.out)
            have Q1x541 := Lib.hid (m2.down KDx54.out)
            have B4x541 := Lib.hid (B4x54.out.same m1.kept (fun x => x))
            have B5x541 := Lib.hid (B5x54.out.same m1.kept (fun x => x))
            clear m1 m2
            have HSSx541 : Hid ((fun w' => (w'.cell? ⟨W.heap.size, 0, none⟩ = some (.int .i64 asc) ∧ w'.cell? ⟨W.heap.size, 1, none⟩ = some (.int .u64 (aze : Int)) ∧ w'.cell? ⟨W.heap.size, 2, none⟩ = some (.int .i64 apo) ∧ w'.cell? ⟨W.heap.size, 3, none⟩ = some (.slice ao apl.length c) ∧ w'.cell? ⟨W.heap.size, 4, none⟩ = some (.int .i64 ano) ∧ w'.cell? ⟨W.heap.size, 5, none⟩ = some (.slice a1 anl.length c1)) ∧ (w'.cell? ⟨(W.heap.size + 1), 0, none⟩ = some (.int .i64 bsc) ∧ w'.cell? ⟨(W.heap.size + 1), 1, none⟩ = some (.int .u64 (bze : Int)) ∧ w'.cell? ⟨(W.heap.size + 1), 2, none⟩ = some (.int .i64 bpo) ∧ w'.cell? ⟨(W.heap.size + 1), 3, none⟩ = some (.slice bo bpl.length d) ∧ w'.cell? ⟨(W.heap.size + 1), 4, none⟩ = some (.int .i64 bno) ∧ w'.cell? ⟨(W.heap.size + 1), 5, none⟩ = some (.slice b1 bnl.length d1))) wx541) := Lib.hid ⟨(HVA.out.on KDx541.out).box.c, (HVB.out.on KDx541.out).box.c⟩
            go_wp2
            refine hK.out _ _ (HSSx541.out) ?_
            clear hK K
            try simp only [Act.put, List.getElem_toArray, List.getElem_cons_succ, List.getElem_cons_zero, List.setIfInBounds_toArray, List.set_cons_zero, List.set_cons_succ]
            refine AnyBut.one (i := 3) (by kernel_rfl) rfl (fun K hK => ?_)
            go_simp
            go_wp2_with fail
            refine (HCB.out _ (HVB.out.on KDx541.out).at_).mono ?_
            rintro e wx5413 ⟨pv, nv, rfl, m1, m2⟩
            obtain ⟨pa3, pc3, rfl⟩ := m1.slice
            obtain ⟨na3, nc3, rfl⟩ := m2.slice
            have KDx5413 := Lib.hid (KDx541.out.trans m1.kept)
            have P3x5413 := Lib.hid (m1.down KDx541.out)
            have Q3x5413 := Lib.hid (m2.down KDx541.out)
            have P1x5413 := Lib.hid (P1x541.out.on m1.kept)
            have Q1x5413 := Lib.hid (Q1x541.out.on m1.kept)
            have B4x5413 := Lib.hid (B4x541.out.same m1.kept (fun x => x))
            have B5x5413 := Lib.hid (B5x541.out.same m1.kept (fun x => x))
            clear m1 m2
            have HSSx5413 : Hid ((fun w' => (w'.cell? ⟨W.heap.size, 0, none⟩ = some (.int .i64 asc) ∧ w'.cell? ⟨W.heap.size, 1, none⟩ = some (.int .u64 (aze : Int)) ∧ w'.cell? ⟨W.heap.size, 2, none⟩ = some (.int .i64 apo) ∧ w'.cell? ⟨W.heap.size, 3, none⟩ = some (.slice ao apl.length c) ∧ w'.cell? ⟨W.heap.size, 4, none⟩ = some (.int .i64 ano) ∧ w'.cell? ⟨W.heap.size, 5, none⟩ = some (.slice a1 anl.length c1)) ∧ (w'.cell? ⟨(W.heap.size + 1), 0, none⟩ = some (.int .i64 bsc) ∧ w'.cell? ⟨(W.heap.size + 1), 1, none⟩ = some (.int .u64 (bze : Int)) ∧ w'.cell? ⟨(W.heap.size + 1), 2, none⟩ = some (.int .i64 bpo) ∧ w'.cell? ⟨(W.heap.size + 1), 3, none⟩ = some (.slice bo bpl.length d) ∧ w'.cell? ⟨(W.heap.size + 1), 4, none⟩ = some (.int .i64 bno) ∧ w'.cell? ⟨(W.heap.size + 1), 5, none⟩ = some (.slice b1 bnl.length d1))) wx5413) := Lib.hid ⟨(HVA.out.on KDx5413.out).box.c, (HVB.out.on KDx5413.out).box.c⟩
            go_wp2
            refine hK.out _ _ (HSSx5413.out) ?_
            clear hK K
            try simp only [Act.put, List.getElem_toArray, List.getElem_cons_succ, List.getElem_cons_zero, List.setIfInBounds_toArray, List.set_cons_zero, List.set_cons_succ]
            refine AnyBut.one (i := 6) (by kernel_rfl) rfl (fun K hK => ?_)
            obtain ⟨z0, z1, z2, z3, z4, z5⟩ := B4x5413.out.c
            have zf := B4x5413.out.f
            simp only at z0 z1 z2 z4
            go_simp
            go_wp2
            have V4x54136 := Lib.hid (B4x5413.out.set ⟨asc, aze, apo, apl, ano, anl⟩ (.slice pa1 (uvals apl).length pc1) (.slice na1 (uvals anl).length nc1))
            have KDx54136 := Lib.hid (KDx5413.out.newer (set6_kept wx5413 q4 (.int .i64 asc) (.int .u64 (aze : Int)) (.int .i64 apo) (.slice pa1 (uvals apl).length pc1) (.int .i64 ano) (.slice na1 (uvals anl).length nc1)) (fun k e => by have := HQ4.out; omega))
            have P1x54136 := Lib.hid (P1x5413.out.set6 B4x5413.out HQ4.out (.int .i64 asc) (.int .u64 (aze : Int)) (.int .i64 apo) (.slice pa1 (uvals apl).length pc1) (.int .i64 ano) (.slice na1 (uvals anl).length nc1))
            have Q1x54136 := Lib.hid (Q1x5413.out.set6 B4x5413.out HQ4.out (.int .i64 asc) (.int .u64 (aze : Int)) (.int .i64 apo) (.slice pa1 (uvals apl).length pc1) (.int .i64 ano) (.slice na1 (uvals anl).length nc1))
            have P3x54136 := Lib.hid (P3x5413.out.set6 B4x5413.out HQ4.out (.int .i64 asc) (.int .u64 (aze : Int)) (.int .i64 apo) (.slice pa1 (uvals apl).length pc1) (.int .i64 ano) (.slice na1 (uvals anl).length nc1))
            have Q3x54136 := Lib.hid (Q3x5413.out.set6 B4x5413.out HQ4.out (.int .i64 asc) (.int .u64 (aze : Int)) (.int .i64 apo) (.slice pa1 (uvals apl).length pc1) (.int .i64 ano) (.slice na1 (uvals anl).length nc1))
            have B5x54136 := Lib.hid (B5x5413.out.same (set6_kept wx5413 q4 (.int .i64 asc) (.int .u64 (aze : Int)) (.int .i64 apo) (.slice pa1 (uvals apl).length pc1) (.int .i64 ano) (.slice na1 (uvals anl).length nc1)) (fun e => by have := HNE.out; omega))
            simp only at V4x54136
            obtain ⟨wx54136, hw⟩ : ∃ w', w' = set6 wx5413 q4 (.int .i64 asc) (.int .u64 (aze : Int)) (.int .i64 apo) (.slice pa1 (uvals apl).length pc1) (.int .i64 ano) (.slice na1 (uvals anl).length nc1) := ⟨_, rfl⟩
            rw [← hw] at V4x54136 KDx54136 P1x54136 Q1x54136 P3x54136 Q3x54136 B5x54136
            unfold set6 at hw
            rw [← hw]
            clear hw z0 z1 z2 z3 z4 z5 zf
            have HSSx54136 : Hid ((fun w' => (w'.cell? ⟨W.heap.size, 0, none⟩ = some (.int .i64 asc) ∧ w'.cell? ⟨W.heap.size, 1, none⟩ = some (.int .u64 (aze : Int)) ∧ w'.cell? ⟨W.heap.size, 2, none⟩ = some (.int .i64 apo) ∧ w'.cell? ⟨W.heap.size, 3, none⟩ = some (.slice ao apl.length c) ∧ w'.cell? ⟨W.heap.size, 4, none⟩ = some (.int .i64 ano) ∧ w'.cell? ⟨W.heap.size, 5, none⟩ = some (.slice a1 anl.length c1)) ∧ (w'.cell? ⟨(W.heap.size + 1), 0, none⟩ = some (.int .i64 bsc) ∧ w'.cell? ⟨(W.heap.size + 1), 1, none⟩ = some (.int .u64 (bze : Int)) ∧ w'.cell? ⟨(W.heap.size + 1), 2, none⟩ = some (.int .i64 bpo) ∧ w'.cell? ⟨(W.heap.size + 1), 3, none⟩ = some (.slice bo bpl.length d) ∧ w'.cell? ⟨(W.heap.size + 1), 4, none⟩ = some (.int .i64 bno) ∧ w'.cell? ⟨(W.heap.size + 1), 5, none⟩ = some (.slice b1 bnl.length d1))) wx54136) := Lib.hid ⟨(HVA.out.on KDx54136.out).box.c, (HVB.out.on KDx54136.out).box.c⟩
            refine hK.out _ _ (HSSx54136.out) ?_
            clear hK K
            try simp only [Act.put, List.getElem_toArray, List.getElem_cons_succ, List.getElem_cons_zero, List.setIfInBounds_toArray, List.set_cons_zero, List.set_cons_succ]
            refine AnyBut.one (i := 7) (by kernel_rfl) rfl (fun K hK => ?_)
            obtain ⟨z0, z1, z2, z3, z4, z5⟩ := B5x54136.out.c
            have zf := B5x54136.out.f
            simp only at z0 z1 z2 z4
            go_simp
            go_wp2
            have V5x541367 := Lib.hid (B5x54136.out.set ⟨bsc, bze, bpo, bpl, bno, bnl⟩ (.slice pa3 (uvals bpl).length pc3) (.slice na3 (uvals bnl).length nc3))
            have KDx541367 := Lib.hid (KDx54136.out.newer (set6_kept wx54136 q5 (.int .i64 bsc) (.int .u64 (bze : Int)) (.int .i64 bpo) (.slice pa3 (uvals bpl).length pc3) (.int .i64 bno) (.slice na3 (uvals bnl).length nc3)) (fun k e => by have := HQ5.out; omega))
            have P1x541367 := Lib.hid (P1x54136.out.set6 B5x54136.out HQ5.out (.int .i64 bsc) (.int .u64 (bze : Int)) (.int .i64 bpo) (.slice pa3 (uvals bpl).length pc3) (.int .i64 bno) (.slice na3 (uvals bnl).length nc3))
            have Q1x541367 := Lib.hid (Q1x54136.out.set6 B5x54136.out HQ5.out (.int .i64 bsc) (.int .u64 (bze : Int)) (.int .i64 bpo) (.slice pa3 (uvals bpl).length pc3) (.int .i64 bno) (.slice na3 (uvals bnl).length nc3))
            have P3x541367 := Lib.hid (P3x54136.out.set6 B5x54136.out HQ5.out (.int .i64 bsc) (.int .u64 (bze : Int)) (.int .i64 bpo) (.slice pa3 (uvals bpl).length pc3) (.int .i64 bno) (.slice na3 (uvals bnl).length nc3))
            have Q3x541367 := Lib.hid (Q3x54136.out.set6 B5x54136.out HQ5.out (.int .i64 bsc) (.int .u64 (bze : Int)) (.int .i64 bpo) (.slice pa3 (uvals bpl).length pc3) (.int .i64 bno) (.slice na3 (uvals bnl).length nc3))
            have V4x541367 := Lib.hid (V4x54136.out.same (set6_kept wx54136 q5 (.int .i64 bsc) (.int .u64 (bze : Int)) (.int .i64 bpo) (.slice pa3 (uvals bpl).length pc3) (.int .i64 bno) (.slice na3 (uvals bnl).length nc3)) (fun e => by have := HNE.out; omega))
            simp only at V5x541367
            obtain ⟨wx541367, hw⟩ : ∃ w', w' = set6 wx54136 q5 (.int .i64 bsc) (.int .u64 (bze : Int)) (.int .i64 bpo) (.slice pa3 (uvals bpl).length pc3) (.int .i64 bno) (.slice na3 (uvals bnl).length nc3) := ⟨_, rfl⟩
            rw [← hw] at V5x541367 KDx541367 P1x541367 Q1x541367 P3x541367 Q3x541367 V4x541367
            unfold set6 at hw
            rw [← hw]
            clear hw z0 z1 z2 z3 z4 z5 zf
            have HSSx541367 : Hid ((fun w' => (w'.cell? ⟨W.heap.size, 0, none⟩ = some (.int .i64 asc) ∧ w'.cell? ⟨W.heap.size, 1, none⟩ = some (.int .u64 (aze : Int)) ∧ w'.cell? ⟨W.heap.size, 2, none⟩ = some (.int .i64 apo) ∧ w'.cell? ⟨W.heap.size, 3, none⟩ = some (.slice ao apl.length c) ∧ w'.cell? ⟨W.heap.size, 4, none⟩ = some (.int .i64 ano) ∧ w'.cell? ⟨W.heap.size, 5, none⟩ = some (.slice a1 anl.length c1)) ∧ (w'.cell? ⟨(W.heap.size + 1), 0, none⟩ = some (.int .i64 bsc) ∧ w'.cell? ⟨(W.heap.size + 1), 1, none⟩ = some (.int .u64 (bze : Int)) ∧ w'.cell? ⟨(W.heap.size + 1), 2, none⟩ = some (.int .i64 bpo) ∧ w'.cell? ⟨(W.heap.size + 1), 3, none⟩ = some (.slice bo bpl.length d) ∧ w'.cell? ⟨(W.heap.size + 1), 4, none⟩ = some (.int .i64 bno) ∧ w'.cell? ⟨(W.heap.size + 1), 5, none⟩ = some (.slice b1 bnl.length d1))) wx541367) := Lib.hid ⟨(HVA.out.on KDx541367.out).box.c, (HVB.out.on KDx541367.out).box.c⟩
            refine hK.out _ _ (HSSx541367.out) ?_
            clear hK K
            try simp only [Act.put, List.getElem_toArray, List.getElem_cons_succ, List.getElem_cons_zero, List.setIfInBounds_toArray, List.set_cons_zero, List.set_cons_succ]
            refine AnyBut.done (by kernel_rfl) ?_
            go_wp2
            go_meet
            exact ⟨q4, q5, _, _, _, _, rfl, rfl, ⟨V4x541367.out, P1x541367.out.at_, Q1x541367.out.at_⟩, ⟨V5x541367.out, P3x541367.out.at_, Q3x541367.out.at_⟩, KDx541367.out⟩
      case rest =>
        obtain ⟨q5, q6, pc, nc, pd, nd, rfl, rfl, hvc, hvd, hk4⟩ := hcut
        rename World => w4
        have HVC := Lib.hid hvc
        have HVD := Lib.hid hvd
        have HK4 := Lib.hid (HK3.out.trans hk4)
        have HVA := Lib.hid (HVA.out.on hk4)
        have HVB := Lib.hid (HVB.out.on hk4)
        have HVA4' := HVA
        have HVB4' := HVB
        have HVC4' := HVC
        have HVD4' := HVD
        have KC4 := Lib.hid (Kept.refl (fun _ => False) w4)
        clear hvc hvd hk4
        obtain ⟨hva0, hva1, hva2, hva3, hva4, hva5⟩ := HVA.out.box.c
        obtain ⟨hvb0, hvb1, hvb2, hvb3, hvb4, hvb5⟩ := HVB.out.box.c
        go_wp2_with fail
        refine (HM1.out _ HVA.out.at_ HVB.out.at_).mono ?_
        rintro e w5 ⟨p1, n1, p2, n2, rfl, m1, m2, m3, m4⟩
        obtain ⟨l1, g1, rfl⟩ := m1.slice
        obtain ⟨l2, g2, rfl⟩ := m2.slice
        obtain ⟨l3, g3, rfl⟩ := m3.slice
        obtain ⟨l4, g4, rfl⟩ := m4.slice
        unfold histV
        dsimp only
        clear hva0 hva1 hva2 hva3 hva4 hva5 hvb0 hvb1 hvb2 hvb3 hvb4 hvb5
        have hk := (m1.kept.alloc (.cells #[.int .i64 XL.sc, .int .u64 (XL.ze : Int), .int .i64 XL.po, .slice l1 (uvals XL.pl).length g1, .int .i64 XL.no, .slice l2 (uvals XL.nl).length g2] 27)).alloc (.cells #[.int .i64 YL.sc, .int .u64 (YL.ze : Int), .int .i64 YL.po, .slice l3 (uvals YL.pl).length g3, .int .i64 YL.no, .slice l4 (uvals YL.nl).length g4] 27)
        have hk2 := ((Kept.refl (fun _ => False) w5).alloc (.cells #[.int .i64 XL.sc, .int .u64 (XL.ze : Int), .int .i64 XL.po, .slice l1 (uvals XL.pl).length g1, .int .i64 XL.no, .slice l2 (uvals XL.nl).length g2] 27)).alloc (.cells #[.int .i64 YL.sc, .int .u64 (YL.ze : Int), .int .i64 YL.po, .slice l3 (uvals YL.pl).length g3, .int .i64 YL.no, .slice l4 (uvals YL.nl).length g4] 27)
        have HVA := Lib.hid (HVA.out.on hk)
        have HVB := Lib.hid (HVB.out.on hk)
        have HVC := Lib.hid (HVC.out.on hk)
        have HVD := Lib.hid (HVD.out.on hk)
        have BXX := Lib.hid ((hist_boxed w5 XL (.slice l1 (uvals XL.pl).length g1) (.slice l2 (uvals XL.nl).length g2)).same ((Kept.refl (fun _ => False) _).alloc (.cells #[.int .i64 YL.sc, .int .u64 (YL.ze : Int), .int .i64 YL.po, .slice l3 (uvals YL.pl).length g3, .int .i64 YL.no, .slice l4 (uvals YL.nl).length g4] 27)) (fun x => x))
        have BXY := Lib.hid (hist_boxed (w5.alloc (.cells #[.int .i64 XL.sc, .int .u64 (XL.ze : Int), .int .i64 XL.po, .slice l1 (uvals XL.pl).length g1, .int .i64 XL.no, .slice l2 (uvals XL.nl).length g2] 27)) YL (.slice l3 (uvals YL.pl).length g3) (.slice l4 (uvals YL.nl).length g4))
        rw [show (w5.alloc (.cells #[.int .i64 XL.sc, .int .u64 (XL.ze : Int), .int .i64 XL.po, .slice l1 (uvals XL.pl).length g1, .int .i64 XL.no, .slice l2 (uvals XL.nl).length g2] 27)).heap.size = w5.heap.size + 1 by simp] at BXY
        have U51 := Lib.hid ((U6.ofMine m1 (by have := HLX.out; omega)).on hk2)
        have U52 := Lib.hid ((U6.ofMine m2 (by have := HLX.out; omega)).on hk2)
        have U53 := Lib.hid ((U6.ofMine m3 (by have := HLX.out; omega)).on hk2)
        have U54 := Lib.hid ((U6.ofMine m4 (by have := HLX.out; omega)).on hk2)
        have KC5 := Lib.hid hk
        obtain ⟨w5', hws⟩ : ∃ w', w' = (w5.alloc (.cells #[.int .i64 XL.sc, .int .u64 (XL.ze : Int), .int .i64 XL.po, .slice l1 (uvals XL.pl).length g1, .int .i64 XL.no, .slice l2 (uvals XL.nl).length g2] 27)).alloc (.cells #[.int .i64 YL.sc, .int .u64 (YL.ze : Int), .int .i64 YL.po, .slice l3 (uvals YL.pl).length g3, .int .i64 YL.no, .slice l4 (uvals YL.nl).length g4] 27) := ⟨_, rfl⟩
        rw [← hws] at KC5 HVA HVB HVC HVD BXX BXY U51 U52 U53 U54
        have HWS5 := Lib.hid hws
        clear hk hk2 hws m1 m2 m3 m4
        go_upto_region 7 with fail
        rw [← HWS5.out]
        obtain ⟨hva0, hva1, hva2, hva3, hva4, hva5⟩ := HVA.out.box.c
        obtain ⟨hvb0, hvb1, hvb2, hvb3, hvb4, hvb5⟩ := HVB.out.box.c
        go_wp2_with fail
        refine (HM2.out _ HVA.out.at_ HVB.out.at_).mono ?_
        rintro e w6 ⟨pv, nv, rfl, m1, m2⟩
        obtain ⟨l1, g1, rfl⟩ := m1.slice
        obtain ⟨l2, g2, rfl⟩ := m2.slice
        unfold histV
        dsimp only
        clear hva0 hva1 hva2 hva3 hva4 hva5 hvb0 hvb1 hvb2 hvb3 hvb4 hvb5
        have hk := (m1.kept).alloc (.cells #[.int .i64 RM.sc, .int .u64 (RM.ze : Int), .int .i64 RM.po, .slice l1 (uvals RM.pl).length g1, .int .i64 RM.no, .slice l2 (uvals RM.nl).length g2] 27)
        have hk2 := (Kept.refl (fun _ => False) w6).alloc (.cells #[.int .i64 RM.sc, .int .u64 (RM.ze : Int), .int .i64 RM.po, .slice l1 (uvals RM.pl).length g1, .int .i64 RM.no, .slice l2 (uvals RM.nl).length g2] 27)
        have KC6 := Lib.hid (KC5.out.trans hk)
        have HVA := Lib.hid (HVA.out.on hk)
        have HVB := Lib.hid (HVB.out.on hk)
        have HVC := Lib.hid (HVC.out.on hk)
        have HVD := Lib.hid (HVD.out.on hk)
        have BXX := Lib.hid (BXX.out.same hk (fun x => x))
        have BXY := Lib.hid (BXY.out.same hk (fun x => x))
        have U51 := Lib.hid (U51.out.on hk)
        have U52 := Lib.hid (U52.out.on hk)
        have U53 := Lib.hid (U53.out.on hk)
        have U54 := Lib.hid (U54.out.on hk)
        have BXM := Lib.hid (hist_boxed w6 RM (.slice l1 (uvals RM.pl).length g1) (.slice l2 (uvals RM.nl).length g2))
        have U61 := Lib.hid ((U6.ofMine (m1.down KC5.out) (by have := HLM.out; omega)).on hk2)
        have U62 := Lib.hid ((U6.ofMine (m2.down KC5.out) (by have := HLM.out; omega)).on hk2)
        obtain ⟨w6', hws⟩ : ∃ w', w' = w6.alloc (.cells #[.int .i64 RM.sc, .int .u64 (RM.ze : Int), .int .i64 RM.po, .slice l1 (uvals RM.pl).length g1, .int .i64 RM.no, .slice l2 (uvals RM.nl).length g2] 27) := ⟨_, rfl⟩
        rw [← hws] at KC6 HVA HVB HVC HVD BXX BXY BXM U51 U52 U53 U54 U61 U62
        have HWS6 := Lib.hid hws
        clear hk hk2 hws m1 m2
        go_upto_region 8 with fail
        rw [← HWS6.out]
        obtain ⟨hva0, hva1, hva2, hva3, hva4, hva5⟩ := HVA.out.box.c
        obtain ⟨hvb0, hvb1, hvb2, hvb3, hvb4, hvb5⟩ := HVB.out.box.c
        go_wp2_with fail
        refine (HU1.out _ HVA.out.at_ HVB.out.at_).mono ?_
        rintro e w7 ⟨RS, ES, hrs, pv, nv, rfl, m1, m2⟩
        obtain ⟨l1, g1, rfl⟩ := m1.slice
        obtain ⟨l2, g2, rfl⟩ := m2.slice
        unfold histV
        dsimp only
        clear hva0 hva1 hva2 hva3 hva4 hva5 hvb0 hvb1 hvb2 hvb3 hvb4 hvb5
        have hk := (m1.kept).alloc (.cells #[.int .i64 RS.sc, .int .u64 (RS.ze : Int), .int .i64 RS.po, .slice l1 (uvals RS.pl).length g1, .int .i64 RS.no, .slice l2 (uvals RS.nl).length g2] 27)
        have hk2 := (Kept.refl (fun _ => False) w7).alloc (.cells #[.int .i64 RS.sc, .int .u64 (RS.ze : Int), .int .i64 RS.po, .slice l1 (uvals RS.pl).length g1, .int .i64 RS.no, .slice l2 (uvals RS.nl).length g2] 27)
        have KC7 := Lib.hid (KC6.out.trans hk)
        have HVA := Lib.hid (HVA.out.on hk)
        have HVB := Lib.hid (HVB.out.on hk)
        have HVC := Lib.hid (HVC.out.on hk)
        have HVD := Lib.hid (HVD.out.on hk)
        have BXX := Lib.hid (BXX.out.same hk (fun x => x))
        have BXY := Lib.hid (BXY.out.same hk (fun x => x))
        have BXM := Lib.hid (BXM.out.same hk (fun x => x))
        have U51 := Lib.hid (U51.out.on hk)
        have U52 := Lib.hid (U52.out.on hk)
        have U53 := Lib.hid (U53.out.on hk)
        have U54 := Lib.hid (U54.out.on hk)
        have U61 := Lib.hid (U61.out.on hk)
        have U62 := Lib.hid (U62.out.on hk)
        have BXS := Lib.hid (hist_boxed w7 RS (.slice l1 (uvals RS.pl).length g1) (.slice l2 (uvals RS.nl).length g2))
        have U71 := Lib.hid ((U6.ofMine (m1.down KC6.out) (by have := HLS.out RS ES hrs; omega)).on hk2)
        have U72 := Lib.hid ((U6.ofMine (m2.down KC6.out) (by have := HLS.out RS ES hrs; omega)).on hk2)
        obtain ⟨w7', hws⟩ : ∃ w', w' = w7.alloc (.cells #[.int .i64 RS.sc, .int .u64 (RS.ze : Int), .int .i64 RS.po, .slice l1 (uvals RS.pl).length g1, .int .i64 RS.no, .slice l2 (uvals RS.nl).length g2] 27) := ⟨_, rfl⟩
        rw [← hws] at KC7 HVA HVB HVC HVD BXX BXY BXM BXS U51 U52 U53 U54 U61 U62 U71 U72
        have HWS7 := Lib.hid hws
        clear hk hk2 hws m1 m2
        go_upto_region 9 with fail
        rw [← HWS7.out]
        obtain ⟨hva0, hva1, hva2, hva3, hva4, hva5⟩ := HVA.out.box.c
        obtain ⟨hvb0, hvb1, hvb2, hvb3, hvb4, hvb5⟩ := HVB.out.box.c
        have hkA := (Kept.refl (fun _ => False) w7').alloc (.cells #[.int .i64 asc, .int .u64 (aze : Int), .int .i64 apo, .slice ao apl.length c, .int .i64 ano, .slice a1 anl.length c1] 27)
        have HCC := Lib.hid (show HistBox (w7'.alloc (.cells #[.int .i64 asc, .int .u64 (aze : Int), .int .i64 apo, .slice ao apl.length c, .int .i64 ano, .slice a1 anl.length c1] 27)) w7'.heap.size ⟨asc, aze, apo, apl, ano, anl⟩ (.slice ao apl.length c) (.slice a1 anl.length c1) from heap_alloc_new w7' _).c
        go_wp2_with fail
        refine (HSUM.out _ _ 0 (HVA.out.on hkA).at_ ⟨HCC.out.1, HCC.out.2.1, HCC.out.2.2.1, HCC.out.2.2.2.1, HCC.out.2.2.2.2.1, HCC.out.2.2.2.2.2⟩).mono ?_
        rintro e w8 ⟨RT, ET, hl1, hl2, pv, nv, rfl, m1, m2⟩
        obtain ⟨l1, g1, rfl⟩ := m1.slice
        obtain ⟨l2, g2, rfl⟩ := m2.slice
        unfold histV
        dsimp only
        clear hva0 hva1 hva2 hva3 hva4 hva5 hvb0 hvb1 hvb2 hvb3 hvb4 hvb5
        have hk := (hkA.trans m1.kept).alloc (.cells #[.int .i64 RT.sc, .int .u64 (RT.ze : Int), .int .i64 RT.po, .slice l1 (uvals RT.pl).length g1, .int .i64 RT.no, .slice l2 (uvals RT.nl).length g2] 27)
        have hk2 := (Kept.refl (fun _ => False) w8).alloc (.cells #[.int .i64 RT.sc, .int .u64 (RT.ze : Int), .int .i64 RT.po, .slice l1 (uvals RT.pl).length g1, .int .i64 RT.no, .slice l2 (uvals RT.nl).length g2] 27)
        have KC8 := Lib.hid (KC7.out.trans hk)
        have HVA := Lib.hid (HVA.out.on hk)
        have HVB := Lib.hid (HVB.out.on hk)
        have HVC := Lib.hid (HVC.out.on hk)
        have HVD := Lib.hid (HVD.out.on hk)
        have BXX := Lib.hid (BXX.out.same hk (fun x => x))
        have BXY := Lib.hid (BXY.out.same hk (fun x => x))
        have BXM := Lib.hid (BXM.out.same hk (fun x => x))
        have BXS := Lib.hid (BXS.out.same hk (fun x => x))
        have U51 := Lib.hid (U51.out.on hk)
        have U52 := Lib.hid (U52.out.on hk)
        have U53 := Lib.hid (U53.out.on hk)
        have U54 := Lib.hid (U54.out.on hk)
        have U61 := Lib.hid (U61.out.on hk)
        have U62 := Lib.hid (U62.out.on hk)
        have U71 := Lib.hid (U71.out.on hk)
        have U72 := Lib.hid (U72.out.on hk)
        have BXT := Lib.hid (hist_boxed w8 RT (.slice l1 (uvals RT.pl).length g1) (.slice l2 (uvals RT.nl).length g2))
        have U81 := Lib.hid ((U6.ofMine (m1.down (KC7.out.trans hkA)) (by omega)).on hk2)
        have U82 := Lib.hid ((U6.ofMine (m2.down (KC7.out.trans hkA)) (by omega)).on hk2)
        obtain ⟨w8', hws⟩ : ∃ w', w' = w8.alloc (.cells #[.int .i64 RT.sc, .int .u64 (RT.ze : Int), .int .i64 RT.po, .slice l1 (uvals RT.pl).length g1, .int .i64 RT.no, .slice l2 (uvals RT.nl).length g2] 27) := ⟨_, rfl⟩
        rw [← hws] at KC8 HVA HVB HVC HVD BXX BXY BXM BXS BXT U51 U52 U53 U54 U61 U62 U71 U72 U81 U82
        have HWS8 := Lib.hid hws
        clear hk hk2 hws m1 m2 hkA
        go_upto_region 10 with fail
        rw [← HWS8.out]
        go_cut [64, 65, 66] from 20 (fun s64 s65 s66 wx => ∃ (g o : Nat) (H : Nat → HistV) (P N : Nat → Value), s64 = .slice (some ⟨g, o, none⟩) 5 5 ∧ s65 = .int .i64 5 ∧ s66 = .int .i64 0 ∧ RW w4 wx g o H P N)
        case first =>
          obtain ⟨x00, x01, x02, x03, x04, x05⟩ := BXX.out.c
          obtain ⟨x10, x11, x12, x13, x14, x15⟩ := BXY.out.c
          obtain ⟨x20, x21, x22, x23, x24, x25⟩ := BXM.out.c
          obtain ⟨x30, x31, x32, x33, x34, x35⟩ := BXS.out.c
          obtain ⟨x40, x41, x42, x43, x44, x45⟩ := BXT.out.c
          go_wp2
          go_meet
          exact ⟨_, 0, _, _, _, rfl, rfl, rfl, RW.mk5 (h0 := XL) (h1 := YL) (h2 := RM) (h3 := RS) (h4 := RT) KC8.out U51.out U53.out U61.out U71.out U81.out U52.out U54.out U62.out U72.out U82.out⟩
        obtain ⟨g, o, H, P, N, rfl, rfl, rfl, hrw⟩ := hcut
        have HRW := Lib.hid hrw
        clear hrw
        go_wp2
        go_loopg [66] 5 (fun x s66 wr => ∃ i : Nat, i ≤ 5 ∧ x = 5 - i ∧ s66 = .int .i64 i ∧ RW w4 wr g o H P N)
        case atStart => exact ⟨0, by omega, rfl, rfl, HRW.out⟩
        case round =>
          obtain ⟨i, hi, rfl, rfl, hrw⟩ := hrel
          have HRI := Lib.hid hrw
          clear hrw
          by_cases hd : i < 5
          · have hd' : (i : Int) < 5 := by omega
            have hi0 : (0 : Int) ≤ (i : Int) := by omega
            have HI := Lib.hid hd
            have hcs := HRI.out.cells i hd
            obtain ⟨u1, u2⟩ := HRI.out.u i hd
            obtain ⟨Hi, hHi⟩ : ∃ x, x = H i := ⟨_, rfl⟩
            obtain ⟨Pi, hPi⟩ : ∃ x, x = P i := ⟨_, rfl⟩
            obtain ⟨Ni, hNi⟩ : ∃ x, x = N i := ⟨_, rfl⟩
            have HP3 := Lib.hid fun w' (h : RW w4 w' g o H P N) => (h.u i hd).1
            have HP5 := Lib.hid fun w' (h : RW w4 w' g o H P N) => (h.u i hd).2
            rw [← hPi] at HP3 hcs u1
            rw [← hNi] at HP5 hcs u2
            rw [← hHi] at hcs
            obtain ⟨pa, pn, pcc, rfl, hpn⟩ := u1.shape
            obtain ⟨na, nn, ncc, rfl, hnn⟩ := u2.shape
            obtain ⟨hsc, hze, hpo, hpl, hno, hnl⟩ := Hi
            obtain ⟨c0, c1, c2, c3, c4, c5⟩ := hcs
            simp only at c0 c1 c2 c4
            clear hPi hNi hHi u1 u2 hd hi
            have hka := (Kept.refl (fun _ => False) wr).alloc (.cells #[.int .i64 hsc, .int .u64 (hze : Int), .int .i64 hpo, .slice pa pn pcc, .int .i64 hno, .slice na nn ncc] 27)
            have HR17 := Lib.hid (HRI.out.on hka)
            have HB17 := Lib.hid (hist_boxed wr ⟨hsc, hze, hpo, hpl, hno, hnl⟩ (.slice pa pn pcc) (.slice na nn ncc))
            simp only at HB17
            obtain ⟨w7, hw7⟩ : ∃ w', w' = wr.alloc (.cells #[.int .i64 hsc, .int .u64 (hze : Int), .int .i64 hpo, .slice pa pn pcc, .int .i64 hno, .slice na nn ncc] 27) := ⟨_, rfl⟩
            obtain ⟨q17, hq17⟩ : ∃ x, x = wr.heap.size := ⟨_, rfl⟩
            rw [← hw7] at HR17 HB17
            rw [← hq17] at HB17
            have HW7 := Lib.hid hw7
            have HQ17 := Lib.hid hq17
            clear hka hw7 hq17
            go_upto_region 13 with fail
            rw [← HW7.out, ← HQ17.out]
            clear c0 c1 c2 c3 c4 c5
            go_wp2
            go_loopg [18] pn (fun x s18 wj => ∃ j : Nat, j ≤ pn ∧ x = pn - j ∧ s18 = .int .i64 j ∧ RW w4 wj g o H P N ∧ HistBox wj q17 ⟨hsc, hze, hpo, hpl, hno, hnl⟩ (.slice pa pn pcc) (.slice na nn ncc))
            case atStart => exact ⟨0, by omega, rfl, rfl, HR17.out, HB17.out⟩
            case round =>
              obtain ⟨j, hj, rfl, rfl, hrj, hbj⟩ := hrel
              have HRJ := Lib.hid hrj
              have HBJ := Lib.hid hbj
              clear hrj hbj
              obtain ⟨x0, x1, x2, x3, x4, x5⟩ := HBJ.out.c
              by_cases hd : j < pn
              · have hd' : (j : Int) < (pn : Int) := by omega
                have hj0 : (0 : Int) ≤ (j : Int) := by omega
                obtain ⟨gg, cs, z, rfl, hbg, hg, hz, hfz⟩ := ((HP3.out _ HRJ.out)).elem hd
                have HBG := Lib.hid hbg
                have HD := Lib.hid hd
                clear hbg hd hj
                go_upto_region 16 with fail
                refine AnyBut.start (S := fun w' => w'.cell? ⟨q17, 3, none⟩ = some (.slice (some ⟨gg, 0, none⟩) pn pcc) ∧ w'.cell? ⟨gg, j, none⟩ = some (.int .u64 z)) (k := 12) (by kernel_rfl) ?_
                obtain ⟨wd, hwd⟩ : ∃ w', w' = wr.drew := ⟨_, rfl⟩
                have hkd := (Kept.refl (fun _ => False) wr).drew
                rw [← hwd] at hkd ⊢
                have HRD := Lib.hid (HRJ.out.on hkd)
                have HBD := Lib.hid (HBJ.out.same hkd (fun x => x))
                have HGD := Lib.hid (hkd.same hg (fun x => x))
                have HFZ := Lib.hid (show wd.frozen? ⟨gg, j, none⟩ = false by simp [World.frozen?, HGD.out])
                have HSJ : Hid ((fun w' => w'.cell? ⟨q17, 3, none⟩ = some (.slice (some ⟨gg, 0, none⟩) pn pcc) ∧ w'.cell? ⟨gg, j, none⟩ = some (.int .u64 z)) wd) := Lib.hid ⟨HBD.out.c.2.2.2.1, hkd.cell hz (fun x => x)⟩
                clear hwd hkd hg hz hfz
                refine AnyBut.take (i := 0) (v := ?v15) rfl (by kernel_rfl) (by kernel_rfl) (by kernel_rfl) (by kernel_rfl) (fun _ _ _ h => h) (HSJ.out) (Or.inl ⟨by kernel_rfl, ?hy15⟩) ?r15
                case hy15 =>
                  intro w hSw
                  try dsimp only at hSw
                  go_simp
                  try with_reducible rfl
                try simp only [Act.put, List.getElem_toArray, List.getElem_cons_zero, List.setIfInBounds_toArray, List.set_cons_zero, List.set_cons_succ]
                refine AnyBut.take (i := 1) (v := ?v16) rfl (by kernel_rfl) (by kernel_rfl) (by kernel_rfl) (by kernel_rfl) (fun _ _ _ h => h) (HSJ.out) (Or.inl ⟨by kernel_rfl, ?hy16⟩) ?r16
                case hy16 =>
                  intro w hSw
                  try dsimp only at hSw
                  go_simp
                  try with_reducible rfl
                try simp only [Act.put, List.getElem_toArray, List.getElem_cons_succ, List.getElem_cons_zero, List.setIfInBounds_toArray, List.set_cons_zero, List.set_cons_succ]
                refine AnyBut.take (i := 2) (v := ?v17) rfl (by kernel_rfl) (by kernel_rfl) (by kernel_rfl) (by kernel_rfl) (fun _ _ _ h => h) (HSJ.out) (Or.inl ⟨by kernel_rfl, ?hy17⟩) ?r17
                case hy17 =>
                  intro w hSw
                  try dsimp only at hSw
                  go_simp
                  try with_reducible rfl
                try simp only [Act.put, List.getElem_toArray, List.getElem_cons_succ, List.getElem_cons_zero, List.setIfInBounds_toArray, List.set_cons_zero, List.set_cons_succ]
                refine AnyBut.take (i := 3) (v := ?v18) rfl (by kernel_rfl) (by kernel_rfl) (by kernel_rfl) (by kernel_rfl) (fun _ _ _ h => h) (HSJ.out) (Or.inl ⟨by kernel_rfl, ?hy18⟩) ?r18
                case hy18 =>
                  intro w hSw
                  try dsimp only at hSw
                  go_simp
                  try with_reducible rfl
                try simp only [Act.put, List.getElem_toArray, List.getElem_cons_succ, List.getElem_cons_zero, List.setIfInBounds_toArray, List.set_cons_zero, List.set_cons_succ]
                refine AnyBut.take (i := 4) (v := ?v19) rfl (by kernel_rfl) (by kernel_rfl) (by kernel_rfl) (by kernel_rfl) (fun _ _ _ h => h) (HSJ.out) (Or.inl ⟨by kernel_rfl, ?hy19⟩) ?r19
                case hy19 =>
                  intro w hSw
                  try dsimp only at hSw
                  go_simp
                  try with_reducible rfl
                try simp only [Act.put, List.getElem_toArray, List.getElem_cons_succ, List.getElem_cons_zero, List.setIfInBounds_toArray, List.set_cons_zero, List.set_cons_succ]
                refine AnyBut.take (i := 5) (v := ?v20) rfl (by kernel_rfl) (by kernel_rfl) (by kernel_rfl) (by kernel_rfl) (fun _ _ _ h => h) (HSJ.out) (Or.inl ⟨by kernel_rfl, ?hy20⟩) ?r20
                case hy20 =>
                  intro w hSw
                  try dsimp only at hSw
                  go_simp
                  try with_reducible rfl
                try simp only [Act.put, List.getElem_toArray, List.getElem_cons_succ, List.getElem_cons_zero, List.setIfInBounds_toArray, List.set_cons_zero, List.set_cons_succ]
                refine AnyBut.take (i := 6) (v := ?v21) rfl (by kernel_rfl) (by kernel_rfl) (by kernel_rfl) (by kernel_rfl) (fun _ _ _ h => h) (HSJ.out) (Or.inl ⟨by kernel_rfl, ?hy21⟩) ?r21
                case hy21 =>
                  intro w hSw
                  try dsimp only at hSw
                  go_simp
                  try with_reducible rfl
                try simp only [Act.put, List.getElem_toArray, List.getElem_cons_succ, List.getElem_cons_zero, List.setIfInBounds_toArray, List.set_cons_zero, List.set_cons_succ]
                refine AnyBut.take (i := 7) (v := ?v22) rfl (by kernel_rfl) (by kernel_rfl) (by kernel_rfl) (by kernel_rfl) (fun _ _ _ h => h) (HSJ.out) (Or.inl ⟨by kernel_rfl, ?hy22⟩) ?r22
                case hy22 =>
                  intro w hSw
                  try dsimp only at hSw
                  go_simp
                  try with_reducible rfl
                try simp only [Act.put, List.getElem_toArray, List.getElem_cons_succ, List.getElem_cons_zero, List.setIfInBounds_toArray, List.set_cons_zero, List.set_cons_succ]
                refine AnyBut.take (i := 8) (v := ?v23) rfl (by kernel_rfl) (by kernel_rfl) (by kernel_rfl) (by kernel_rfl) (fun _ _ _ h => h) (HSJ.out) (Or.inl ⟨by kernel_rfl, ?hy23⟩) ?r23
                case hy23 =>
                  intro w hSw
                  try dsimp only at hSw
                  go_simp
                  try with_reducible rfl
                try simp only [Act.put, List.getElem_toArray, List.getElem_cons_succ, List.getElem_cons_zero, List.setIfInBounds_toArray, List.set_cons_zero, List.set_cons_succ]
                refine AnyBut.take (i := 9) (v := ?v24) rfl (by kernel_rfl) (by kernel_rfl) (by kernel_rfl) (by kernel_rfl) (fun _ _ _ h => h) (HSJ.out) (Or.inl ⟨by kernel_rfl, ?hy24⟩) ?r24
                case hy24 =>
                  intro w hSw
                  try dsimp only at hSw
                  go_simp
                  try with_reducible rfl
                try simp only [Act.put, List.getElem_toArray, List.getElem_cons_succ, List.getElem_cons_zero, List.setIfInBounds_toArray, List.set_cons_zero, List.set_cons_succ]
                refine AnyBut.take (i := 10) (v := ?v25) rfl (by kernel_rfl) (by kernel_rfl) (by kernel_rfl) (by kernel_rfl) (fun _ _ _ h => h) (HSJ.out) (Or.inl ⟨by kernel_rfl, ?hy25⟩) ?r25
                case hy25 =>
                  intro w hSw
                  try dsimp only at hSw
                  go_simp
                  try with_reducible rfl
                try simp only [Act.put, List.getElem_toArray, List.getElem_cons_succ, List.getElem_cons_zero, List.setIfInBounds_toArray, List.set_cons_zero, List.set_cons_succ]
                refine AnyBut.take (i := 11) (v := ?v26) rfl (by kernel_rfl) (by kernel_rfl) (by kernel_rfl) (by kernel_rfl) (fun _ _ _ h => h) (HSJ.out) (Or.inl ⟨by kernel_rfl, ?hy26⟩) ?r26
                case hy26 =>
                  intro w hSw
                  try dsimp only at hSw
                  go_simp
                  try with_reducible rfl
                try simp only [Act.put, List.getElem_toArray, List.getElem_cons_succ, List.getElem_cons_zero, List.setIfInBounds_toArray, List.set_cons_zero, List.set_cons_succ]
                refine AnyBut.last (by kernel_rfl) rfl (by kernel_rfl) (fun K hK => ?_)
                have fz := HFZ.out
                obtain ⟨y0, y1⟩ := HSJ.out
                go_simp
                go_wp2
                refine hK.out _ _ ?_
                clear hK K
                try simp only [Act.put, List.getElem_toArray, List.getElem_cons_succ, List.getElem_cons_zero, List.setIfInBounds_toArray, List.set_cons_zero, List.set_cons_succ]
                have hr9 := HRD.out.set HBG.out HGD.out j (IntKind.u64.wrap (z + 1))
                have hb9 := HBD.out.setU HGD.out j (.int .u64 (IntKind.u64.wrap (z + 1)))
                obtain ⟨w9, hw9⟩ : ∃ w', w' = wd.setCell ⟨gg, j, none⟩ (.int .u64 (IntKind.u64.wrap (z + 1))) := ⟨_, rfl⟩
                rw [← hw9] at hr9 hb9 ⊢
                have HR9 := Lib.hid hr9
                have HB9 := Lib.hid hb9
                clear hr9 hb9 hw9 y0 y1 fz
                go_wp2
                go_roundg (pn - (j + 1))
                case measure => have := HD.out; omega
                case rel => exact ⟨j + 1, HD.out, rfl, by go_num, HR9.out, HB9.out⟩
              · have hjn : pn = j := by omega
                subst hjn
                clear hd hj
                have HR18 := Lib.hid HRJ.out
                have HB18 := Lib.hid HBJ.out
                clear HRJ HBJ
                go_wp2
                go_loopg [19] nn (fun x s19 wj => ∃ j : Nat, j ≤ nn ∧ x = nn - j ∧ s19 = .int .i64 j ∧ RW w4 wj g o H P N ∧ HistBox wj q17 ⟨hsc, hze, hpo, hpl, hno, hnl⟩ (.slice pa pn pcc) (.slice na nn ncc))
                case atStart => exact ⟨0, by omega, rfl, rfl, HR18.out, HB18.out⟩
                case round =>
                  obtain ⟨j, hj, rfl, rfl, hrj, hbj⟩ := hrel
                  have HRJ := Lib.hid hrj
                  have HBJ := Lib.hid hbj
                  clear hrj hbj
                  obtain ⟨x0, x1, x2, x3, x4, x5⟩ := HBJ.out.c
                  by_cases hd : j < nn
                  · have hd' : (j : Int) < (nn : Int) := by omega
                    have hj0 : (0 : Int) ≤ (j : Int) := by omega
                    obtain ⟨gg, cs, z, rfl, hbg, hg, hz, hfz⟩ := ((HP5.out _ HRJ.out)).elem hd
                    have HBG := Lib.hid hbg
                    have HD := Lib.hid hd
                    clear hbg hd hj
                    go_upto_region 20 with fail
                    refine AnyBut.start (S := fun w' => w'.cell? ⟨q17, 5, none⟩ = some (.slice (some ⟨gg, 0, none⟩) nn ncc) ∧ w'.cell? ⟨gg, j, none⟩ = some (.int .u64 z)) (k := 12) (by kernel_rfl) ?_
                    obtain ⟨wd, hwd⟩ : ∃ w', w' = wr.drew := ⟨_, rfl⟩
                    have hkd := (Kept.refl (fun _ => False) wr).drew
                    rw [← hwd] at hkd ⊢
                    have HRD := Lib.hid (HRJ.out.on hkd)
                    have HBD := Lib.hid (HBJ.out.same hkd (fun x => x))
                    have HGD := Lib.hid (hkd.same hg (fun x => x))
                    have HFZ := Lib.hid (show wd.frozen? ⟨gg, j, none⟩ = false by simp [World.frozen?, HGD.out])
                    have HSJ : Hid ((fun w' => w'.cell? ⟨q17, 5, none⟩ = some (.slice (some ⟨gg, 0, none⟩) nn ncc) ∧ w'.cell? ⟨gg, j, none⟩ = some (.int .u64 z)) wd) := Lib.hid ⟨HBD.out.c.2.2.2.2.2, hkd.cell hz (fun x => x)⟩
                    clear hwd hkd hg hz hfz
                    refine AnyBut.take (i := 0) (v := ?v3) rfl (by kernel_rfl) (by kernel_rfl) (by kernel_rfl) (by kernel_rfl) (fun _ _ _ h => h) (HSJ.out) (Or.inl ⟨by kernel_rfl, ?hy3⟩) ?r3
                    case hy3 =>
                      intro w hSw
                      try dsimp only at hSw
                      go_simp
                      try with_reducible rfl
                    try simp only [Act.put, List.getElem_toArray, List.getElem_cons_zero, List.setIfInBounds_toArray, List.set_cons_zero, List.set_cons_succ]
                    refine AnyBut.take (i := 1) (v := ?v4) rfl (by kernel_rfl) (by kernel_rfl) (by kernel_rfl) (by kernel_rfl) (fun _ _ _ h => h) (HSJ.out) (Or.inl ⟨by kernel_rfl, ?hy4⟩) ?r4
                    case hy4 =>
                      intro w hSw
                      try dsimp only at hSw
                      go_simp
                      try with_reducible rfl
                    try simp only [Act.put, List.getElem_toArray, List.getElem_cons_succ, List.getElem_cons_zero, List.setIfInBounds_toArray, List.set_cons_zero, List.set_cons_succ]
                    refine AnyBut.take (i := 2) (v := ?v5) rfl (by kernel_rfl) (by kernel_rfl) (by kernel_rfl) (by kernel_rfl) (fun _ _ _ h => h) (HSJ.out) (Or.inl ⟨by kernel_rfl, ?hy5⟩) ?r5
                    case hy5 =>
                      intro w hSw
                      try dsimp only at hSw
                      go_simp
                      try with_reducible rfl
                    try simp only [Act.put, List.getElem_toArray, List.getElem_cons_succ, List.getElem_cons_zero, List.setIfInBounds_toArray, List.set_cons_zero, List.set_cons_succ]
                    refine AnyBut.take (i := 3) (v := ?v6) rfl (by kernel_rfl) (by kernel_rfl) (by kernel_rfl) (by kernel_rfl) (fun _ _ _ h => h) (HSJ.out) (Or.inl ⟨by kernel_rfl, ?hy6⟩) ?r6
                    case hy6 =>
                      intro w hSw
                      try dsimp only at hSw
                      go_simp
                      try with_reducible rfl
                    try simp only [Act.put, List.getElem_toArray, List.getElem_cons_succ, List.getElem_cons_zero, List.setIfInBounds_toArray, List.set_cons_zero, List.set_cons_succ]
                    refine AnyBut.take (i := 4) (v := ?v7) rfl (by kernel_rfl) (by kernel_rfl) (by kernel_rfl) (by kernel_rfl) (fun _ _ _ h => h) (HSJ.out) (Or.inl ⟨by kernel_rfl, ?hy7⟩) ?r7
                    case hy7 =>
                      intro w hSw
                      try dsimp only at hSw
                      go_simp
                      try with_reducible rfl
                    try simp only [Act.put, List.getElem_toArray, List.getElem_cons_succ, List.getElem_cons_zero, List.setIfInBounds_toArray, List.set_cons_zero, List.set_cons_succ]
                    refine AnyBut.take (i := 5) (v := ?v8) rfl (by kernel_rfl) (by kernel_rfl) (by kernel_rfl) (by kernel_rfl) (fun _ _ _ h => h) (HSJ.out) (Or.inl ⟨by kernel_rfl, ?hy8⟩) ?r8
                    case hy8 =>
                      intro w hSw
                      try dsimp only at hSw
                      go_simp
                      try with_reducible rfl
                    try simp only [Act.put, List.getElem_toArray, List.getElem_cons_succ, List.getElem_cons_zero, List.setIfInBounds_toArray, List.set_cons_zero, List.set_cons_succ]
                    refine AnyBut.take (i := 6) (v := ?v9) rfl (by kernel_rfl) (by kernel_rfl) (by kernel_rfl) (by kernel_rfl) (fun _ _ _ h => h) (HSJ.out) (Or.inl ⟨by kernel_rfl, ?hy9⟩) ?r9
                    case hy9 =>
                      intro w hSw
                      try dsimp only at hSw
                      go_simp
                      try with_reducible rfl
                    try simp only [Act.put, List.getElem_toArray, List.getElem_cons_succ, List.getElem_cons_zero, List.setIfInBounds_toArray, List.set_cons_zero, List.set_cons_succ]
                    refine AnyBut.take (i := 7) (v := ?v10) rfl (by kernel_rfl) (by kernel_rfl) (by kernel_rfl) (by kernel_rfl) (fun _ _ _ h => h) (HSJ.out) (Or.inl ⟨by kernel_rfl, ?hy10⟩) ?r10
                    case hy10 =>
                      intro w hSw
                      try dsimp only at hSw
                      go_simp
                      try with_reducible rfl
                    try simp only [Act.put, List.getElem_toArray, List.getElem_cons_succ, List.getElem_cons_zero, List.setIfInBounds_toArray, List.set_cons_zero, List.set_cons_succ]
                    refine AnyBut.take (i := 8) (v := ?v11) rfl (by kernel_rfl) (by kernel_rfl) (by kernel_rfl) (by kernel_rfl) (fun _ _ _ h => h) (HSJ.out) (Or.inl ⟨by kernel_rfl, ?hy11⟩) ?r11
                    case hy11 =>
                      intro w hSw
                      try dsimp only at hSw
                      go_simp
                      try with_reducible rfl
                    try simp only [Act.put, List.getElem_toArray, List.getElem_cons_succ, List.getElem_cons_zero, List.setIfInBounds_toArray, List.set_cons_zero, List.set_cons_succ]
                    refine AnyBut.take (i := 9) (v := ?v12) rfl (by kernel_rfl) (by kernel_rfl) (by kernel_rfl) (by kernel_rfl) (fun _ _ _ h => h) (HSJ.out) (Or.inl ⟨by kernel_rfl, ?hy12⟩) ?r12
                    case hy12 =>
                      intro w hSw
                      try dsimp only at hSw
                      go_simp
                      try with_reducible rfl
                    try simp only [Act.put, List.getElem_toArray, List.getElem_cons_succ, List.getElem_cons_zero, List.setIfInBounds_toArray, List.set_cons_zero, List.set_cons_succ]
                    refine AnyBut.take (i := 10) (v := ?v13) rfl (by kernel_rfl) (by kernel_rfl) (by kernel_rfl) (by kernel_rfl) (fun _ _ _ h => h) (HSJ.out) (Or.inl ⟨by kernel_rfl, ?hy13⟩) ?r13
                    case hy13 =>
                      intro w hSw
                      try dsimp only at hSw
                      go_simp
                      try with_reducible rfl
                    try simp only [Act.put, List.getElem_toArray, List.getElem_cons_succ, List.getElem_cons_zero, List.setIfInBounds_toArray, List.set_cons_zero, List.set_cons_succ]
                    refine AnyBut.take (i := 11) (v := ?v14) rfl (by kernel_rfl) (by kernel_rfl) (by kernel_rfl) (by kernel_rfl) (fun _ _ _ h => h) (HSJ.out) (Or.inl ⟨by kernel_rfl, ?hy14⟩) ?r14
                    case hy14 =>
                      intro w hSw
                      try dsimp only at hSw
                      go_simp
                      try with_reducible rfl
                    try simp only [Act.put, List.getElem_toArray, List.getElem_cons_succ, List.getElem_cons_zero, List.setIfInBounds_toArray, List.set_cons_zero, List.set_cons_succ]
                    refine AnyBut.last (by kernel_rfl) rfl (by kernel_rfl) (fun K hK => ?_)
                    have fz := HFZ.out
                    obtain ⟨y0, y1⟩ := HSJ.out
                    go_simp
                    go_wp2
                    refine hK.out _ _ ?_
                    clear hK K
                    try simp only [Act.put, List.getElem_toArray, List.getElem_cons_succ, List.getElem_cons_zero, List.setIfInBounds_toArray, List.set_cons_zero, List.set_cons_succ]
                    have hr9 := HRD.out.set HBG.out HGD.out j (IntKind.u64.wrap (z + 1))
                    have hb9 := HBD.out.setU HGD.out j (.int .u64 (IntKind.u64.wrap (z + 1)))
                    obtain ⟨w9, hw9⟩ : ∃ w', w' = wd.setCell ⟨gg, j, none⟩ (.int .u64 (IntKind.u64.wrap (z + 1))) := ⟨_, rfl⟩
                    rw [← hw9] at hr9 hb9 ⊢
                    have HR9 := Lib.hid hr9
                    have HB9 := Lib.hid hb9
                    clear hr9 hb9 hw9 y0 y1 fz
                    go_wp2
                    go_roundg (nn - (j + 1))
                    case measure => have := HD.out; omega
                    case rel => exact ⟨j + 1, HD.out, rfl, by go_num, HR9.out, HB9.out⟩
                  · have hjn : nn = j := by omega
                    subst hjn
                    clear hd hj
                    go_wp2
                    go_roundg (5 - (i + 1))
                    case measure => have := HI.out; omega
                    case rel => exact ⟨i + 1, HI.out, rfl, by go_num, HRJ.out⟩
          · have hi5 : i = 5 := by omega
            subst hi5
            clear hd hi
            have HA9 := Lib.hid (HVA4'.out.on HRI.out.kept)
            have HB9 := Lib.hid (HVB4'.out.on HRI.out.kept)
            have HC9 := Lib.hid (HVC4'.out.on HRI.out.kept)
            have HD9 := Lib.hid (HVD4'.out.on HRI.out.kept)
            obtain ⟨⟨pca, pcc, epc⟩, nca, ncc, enc⟩ := HC9.out.at_.sl
            obtain ⟨⟨pda, pdc, epd⟩, nda, ndc, end'⟩ := HD9.out.at_.sl
            simp only at epc enc epd end'
            subst epc enc epd end'
            obtain ⟨x0, x1, x2, x3, x4, x5⟩ := HA9.out.box.c
            obtain ⟨y0, y1, y2, y3, y4, y5⟩ := HC9.out.box.c
            go_wp2_with fail
            refine (HSA.out _ _ _ _ _ HA9.out.at_ HC9.out.at_).mono ?_
            rintro e v1 ⟨rfl, k1⟩
            have HBB := Lib.hid (HB9.out.on k1)
            have HDD := Lib.hid (HD9.out.on k1)
            have KV1 := Lib.hid k1
            clear k1 x0 x1 x2 x3 x4 x5 y0 y1 y2 y3 y4 y5
            obtain ⟨x0, x1, x2, x3, x4, x5⟩ := HBB.out.box.c
            obtain ⟨y0, y1, y2, y3, y4, y5⟩ := HDD.out.box.c
            go_wp2_with fail
            refine (HSB.out _ _ _ _ _ HBB.out.at_ HDD.out.at_).mono ?_
            rintro e v2 ⟨rfl, k2⟩
            have KV2 := Lib.hid k2
            clear k2
            go_wp2
            go_ret
            exact ⟨rfl, HKW.out.trans ((HK4.out.trans HRI.out.kept).trans (KV1.out.trans KV2.out))⟩
    · rw [decide_eq_true hla] at HLA
      rw [decide_eq_false hlb] at HLB
      clear ha hb hla hlb k0 hw0
      obtain ⟨asc, aze, apo, apl, ano, anl⟩ := a
      obtain ⟨bsc, bze, bpo, bpl, bno, bnl⟩ := b
      unfold histV at HLA HLB ⊢
      simp only at HLA HLB HW0 ⊢
      go_enter Try.func11, Try.ntmps11
      go_upto_region 1 with fail
      rw [← HW0.out]
      go_wp2_with fail
      refine HAW.out.mono ?_
      rintro e w1 ⟨rfl, k1⟩
      have HS1 := Lib.hid k1
      have HK1 := Lib.hid k1
      clear k1
      have HVA := Lib.hid (HVA.out.on HS1.out)
      have HVB := Lib.hid (HVB.out.on HS1.out)
      obtain ⟨hva0, hva1, hva2, hva3, hva4, hva5⟩ := HVA.out.box.c
      go_wp2_with fail
      refine (HLA.out _ HVA.out.at_).mono ?_
      rintro e w2 ⟨rfl, k2⟩
      have HS2 := Lib.hid k2
      clear k2
      have HK2 := Lib.hid (HK1.out.trans HS2.out)
      have HVA := Lib.hid (HVA.out.on HS2.out)
      have HVB := Lib.hid (HVB.out.on HS2.out)
      clear hva0 hva1 hva2 hva3 hva4 hva5
      obtain ⟨hvb0, hvb1, hvb2, hvb3, hvb4, hvb5⟩ := HVB.out.box.c
      go_wp2_with fail
      refine (HLB.out _ HVB.out.at_).mono ?_
      rintro e w3 ⟨rfl, k3⟩
      have HS3 := Lib.hid k3
      clear k3
      have HK3 := Lib.hid (HK2.out.trans HS3.out)
      have HVA := Lib.hid (HVA.out.on HS3.out)
      have HVB := Lib.hid (HVB.out.on HS3.out)
      clear hvb0 hvb1 hvb2 hvb3 hvb4 hvb5
      go_wp2
      go_ret
      exact ⟨rfl, HKW.out.trans HK3.out⟩
  · rw [decide_eq_false hla] at HLA
    clear ha hb hla k0 hw0
    obtain ⟨asc, aze, apo, apl, ano, anl⟩ := a
    obtain ⟨bsc, bze, bpo, bpl, bno, bnl⟩ := b
    unfold histV at HLA HLB ⊢
    simp only at HLA HLB HW0 ⊢
    go_enter Try.func11, Try.ntmps11
    go_upto_region 1 with fail
    rw [← HW0.out]
    go_wp2_with fail
    refine HAW.out.mono ?_
    rintro e w1 ⟨rfl, k1⟩
    have HS1 := Lib.hid k1
    have HK1 := Lib.hid k1
    clear k1
    have HVA := Lib.hid (HVA.out.on HS1.out)
    have HVB := Lib.hid (HVB.out.on HS1.out)
    obtain ⟨hva0, hva1, hva2, hva3, hva4, hva5⟩ := HVA.out.box.c
    go_wp2_with fail
    refine (HLA.out _ HVA.out.at_).mono ?_
    rintro e w2 ⟨rfl, k2⟩
    have HS2 := Lib.hid k2
    clear k2
    have HK2 := Lib.hid (HK1.out.trans HS2.out)
    have HVA := Lib.hid (HVA.out.on HS2.out)
    have HVB := Lib.hid (HVB.out.on HS2.out)
    clear hva0 hva1 hva2 hva3 hva4 hva5
    go_wp2
    go_ret
    exact ⟨rfl, HKW.out.trans HK2.out⟩
end Go.Proofs.Ytbjpcddnjndjlaa
