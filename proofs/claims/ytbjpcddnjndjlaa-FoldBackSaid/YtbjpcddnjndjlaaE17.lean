/- Layer 9: the walk of FoldMerges. -/
import Derived.Test.YtbjpcddnjndjlaaE16
namespace Go.Proofs.Ytbjpcddnjndjlaa
open Go.RowKit
attribute [local go_sem ↓] Go.wp_at_zero Go.wp_at_succ

theorem mgR_len (o1 : Int) (l1 : List Nat) (o2 : Int) (l2 : List Nat) : (mgR o1 l1 o2 l2).length ≤ 160 := by
  unfold mgR
  split
  · unfold mgL; rw [rowF_length]; assumption
  · simp
theorem mgH_len {a b : HistV} (_ : a.ok) (_ : b.ok) : (mgH a b).pl.length ≤ 300 ∧ (mgH a b).nl.length ≤ 300 := by
  unfold mgH
  split
  · have h1 := mgR_len (levX a b).po (levX a b).pl (levY a b).po (levY a b).pl
    have h2 := mgR_len (levX a b).no (levX a b).nl (levY a b).no (levY a b).nl
    unfold mgH2
    exact ⟨by simp only; omega, by simp only; omega⟩
  · unfold zeroH; simp
theorem subH_exists (a b : HistV) : ∃ R E, SubH a b R E := by
  by_cases h : levE a b = 0
  · obtain ⟨k1, o1, l1, h1⟩ := sub_exists (levX a b).po (levX a b).pl (levY a b).po (levY a b).pl
    obtain ⟨k2, o2, l2, h2⟩ := sub_exists (levX a b).no (levX a b).nl (levY a b).no (levY a b).nl
    by_cases hg : k1 = true ∧ k2 = true ∧ (levY a b).ze ≤ (levX a b).ze
    · exact ⟨_, _, .inr ⟨h, k1, o1, l1, k2, o2, l2, h1, h2, .inl ⟨hg.1, hg.2.1, hg.2.2, rfl, rfl⟩⟩⟩
    · refine ⟨_, _, .inr ⟨h, k1, o1, l1, k2, o2, l2, h1, h2, .inr ⟨?_, rfl, rfl⟩⟩⟩
      cases k1
      · exact .inl rfl
      · cases k2
        · exact .inr (.inl rfl)
        · exact .inr (.inr (by have h : ¬ (levY a b).ze ≤ (levX a b).ze := fun h => hg ⟨rfl, rfl, h⟩; omega))
  · exact ⟨_, _, .inl ⟨h, rfl, rfl⟩⟩
theorem SubRes.len {o1 : Int} {l1 : List Nat} {o2 : Int} {l2 : List Nat} {k : Bool} {o : Int} {l : List Nat} (h : SubRes o1 l1 o2 l2 k o l) : l.length ≤ l1.length := by
  rcases h with ⟨_, _, t⟩ | ⟨_, _, _, rfl⟩
  · have := t.len; unfold lsL at this; rwa [rowF_length] at this
  · simp
theorem subH_len {a b R : HistV} {E : Nat} (h : SubH a b R E) (oka : a.ok) (okb : b.ok) : R.pl.length ≤ 300 ∧ R.nl.length ≤ 300 := by
  rcases h with ⟨_, _, rfl⟩ | ⟨h0, k1, o1, l1, k2, o2, l2, h1, h2, ⟨_, _, _, _, rfl⟩ | ⟨_, _, rfl⟩⟩
  · unfold zeroH; simp
  · obtain ⟨_, _, ex, _⟩ := lev_right h0 oka okb
    obtain ⟨_, hx1, hx2, _⟩ := err_light ex
    have := (sideE_zero hx1).1
    have := (sideE_zero hx2).1
    have := h1.len
    have := h2.len
    exact ⟨by simp only; omega, by simp only; omega⟩
  · unfold zeroH; simp

set_option maxHeartbeats 4000000 in
set_option maxRecDepth 100000 in
theorem foldMerges_walk (a : HistV) (ap an : Value) (b : HistV) (bp bn : Value) (W : World) (ha : HistIn W a ap an) (hb : HistIn W b bp bn) :
    Calls Try.prog 9 #[histV a ap an, histV b bp bn] W fun e w' => e = .returned (.bool true) ∧ Kept (fun _ => False) W w' := by
  obtain ⟨⟨ao, c, rfl⟩, a1, c1, rfl⟩ := ha.at_.sl
  obtain ⟨⟨bo, d, rfl⟩, b1, d1, rfl⟩ := hb.at_.sl
  obtain ⟨w0, hw0⟩ : ∃ w0, w0 = (W.alloc (.cells #[.int .i64 a.sc, .int .u64 (a.ze : Int), .int .i64 a.po, .slice ao a.pl.length c, .int .i64 a.no, .slice a1 a.nl.length c1] 27)).alloc (.cells #[.int .i64 b.sc, .int .u64 (b.ze : Int), .int .i64 b.po, .slice bo b.pl.length d, .int .i64 b.no, .slice b1 b.nl.length d1] 27) := ⟨_, rfl⟩
  have k0 : Kept (fun _ => False) W w0 := by rw [hw0]; exact ((Kept.refl _ _).alloc _).alloc _
  have HVA : Hid (HV w0 W.heap.size a (.slice ao a.pl.length c) (.slice a1 a.nl.length c1)) := Lib.hid ⟨by rw [hw0]; exact (hist_boxed W a _ _).same ((Kept.refl (fun _ => False) _).alloc _) (fun x => x), ha.at_.on k0⟩
  have HVB : Hid (HV w0 (W.heap.size + 1) b (.slice bo b.pl.length d) (.slice b1 b.nl.length d1)) := Lib.hid ⟨by
    rw [hw0]
    have := hist_boxed (W.alloc (.cells #[.int .i64 a.sc, .int .u64 (a.ze : Int), .int .i64 a.po, .slice ao a.pl.length c, .int .i64 a.no, .slice a1 a.nl.length c1] 27)) b (.slice bo b.pl.length d) (.slice b1 b.nl.length d1)
    rwa [show (W.alloc (.cells #[.int .i64 a.sc, .int .u64 (a.ze : Int), .int .i64 a.po, .slice ao a.pl.length c, .int .i64 a.no, .slice a1 a.nl.length c1] 27)).heap.size = W.heap.size + 1 by simp] at this, hb.at_.on k0⟩
  have HKW := Lib.hid k0
  have HW0 := Lib.hid hw0
  have HAW := Lib.hid (awake9 w0)
  have HLA := Lib.hid fun w' (k : HistAt w' a (.slice ao a.pl.length c) (.slice a1 a.nl.length c1)) => refLight_any a _ _ w' k
  have HLB := Lib.hid fun w' (k : HistAt w' b (.slice bo b.pl.length d) (.slice b1 b.nl.length d1)) => refLight_any b _ _ w' k
  have HIA := Lib.hid fun w' (k : HistAt w' a (.slice ao a.pl.length c) (.slice a1 a.nl.length c1)) => (HistIn.mk k ha.ok ha.cp ha.cn)
  have HIB := Lib.hid fun w' (k : HistAt w' b (.slice bo b.pl.length d) (.slice b1 b.nl.length d1)) => (HistIn.mk k hb.ok hb.cp hb.cn)
  by_cases hla : a.pl.length ≤ 300 ∧ a.nl.length ≤ 300
  · by_cases hlb : b.pl.length ≤ 300 ∧ b.nl.length ≤ 300
    · rw [decide_eq_true hla] at HLA
      rw [decide_eq_true hlb] at HLB
      have HM1 := Lib.hid fun w' (k : HistAt w' a (.slice ao a.pl.length c) (.slice a1 a.nl.length c1)) (k2 : HistAt w' b (.slice bo b.pl.length d) (.slice b1 b.nl.length d1)) => foldMerge_any a b _ _ _ _ w' (HIA.out w' k) (HIB.out w' k2) (by omega) (by omega) (by omega) (by omega)
      have HM2 := Lib.hid fun w' (k : HistAt w' a (.slice ao a.pl.length c) (.slice a1 a.nl.length c1)) (k2 : HistAt w' b (.slice bo b.pl.length d) (.slice b1 b.nl.length d1)) => ref9Merge_any a b _ _ _ _ w' (HIA.out w' k) (HIB.out w' k2) (by omega) (by omega) (by omega) (by omega)
      have HU1 := Lib.hid fun w' (k : HistAt w' a (.slice ao a.pl.length c) (.slice a1 a.nl.length c1)) (k2 : HistAt w' b (.slice bo b.pl.length d) (.slice b1 b.nl.length d1)) => foldSub_any a b _ _ _ _ w' (HIA.out w' k) (HIB.out w' k2) (by omega) (by omega) (by omega) (by omega)
      have HU2 := Lib.hid fun w' (k : HistAt w' a (.slice ao a.pl.length c) (.slice a1 a.nl.length c1)) (k2 : HistAt w' b (.slice bo b.pl.length d) (.slice b1 b.nl.length d1)) => ref9Sub_any a b _ _ _ _ w' (HIA.out w' k) (HIB.out w' k2) (by omega) (by omega) (by omega) (by omega)
      have HEM := Lib.hid fun w' (k : HistAt w' a (.slice ao a.pl.length c) (.slice a1 a.nl.length c1)) => foldEmpty_any a _ _ w' k
      have lm := mgH_len (a := a) (b := b) ha.ok hb.ok
      obtain ⟨RS, ES, hrs⟩ := subH_exists a b
      have ls := subH_len hrs ha.ok hb.ok
      have HRS := Lib.hid fun R E (h : SubH a b R E) => SubH.uniq hrs h
      obtain ⟨PS, hPS⟩ : ∃ P : HistV → Nat → Prop, P = SubH a b := ⟨_, rfl⟩
      rw [← hPS] at HU1 HU2 HRS
      obtain ⟨RM, hRM⟩ : ∃ R, R = mgH a b := ⟨_, rfl⟩
      obtain ⟨EM, hEM⟩ : ∃ E, E = mgE a b := ⟨_, rfl⟩
      rw [← hRM, ← hEM] at HM1 HM2
      rw [← hRM] at lm
      have HSM := Lib.hid fun w' p1 n1 p2 n2 (k1 : HistAt w' RM p1 n1) (k2 : HistAt w' RM p2 n2) => refSame_any RM RM p1 n1 p2 n2 w' k1 k2 (by omega) (by omega)
      have HSS := Lib.hid fun w' p1 n1 p2 n2 (k1 : HistAt w' RS p1 n1) (k2 : HistAt w' RS p2 n2) => refSame_any RS RS p1 n1 p2 n2 w' k1 k2 (by omega) (by omega)
      rw [decide_eq_true ((sameH_iff RM RM).mpr rfl)] at HSM
      rw [decide_eq_true ((sameH_iff RS RS).mpr rfl)] at HSS
      have q1 : ((EM : Int) == (EM : Int)) = true := beqT rfl
      have q2 : ((ES : Int) == (ES : Int)) = true := beqT rfl
      by_cases h0 : a.ze = 0
      · have z0 : ((a.ze : Int) == 0) = true := beqT (by omega)
        by_cases h1 : a.pl.length = 0
        · have z1 : ((a.pl.length : Int) == 0) = true := beqT (by omega)
          by_cases h2 : a.nl.length = 0
          · have z2 : ((a.nl.length : Int) == 0) = true := beqT (by omega)
            rw [decide_eq_true ⟨h0, h1, h2⟩] at HEM
            clear h0 h1 h2
            clear hrs hPS hRM hEM lm ls ha hb hla hlb k0 hw0
            obtain ⟨asc, aze, apo, apl, ano, anl⟩ := a
            obtain ⟨bsc, bze, bpo, bpl, bno, bnl⟩ := b
            unfold histV at HLA HLB HM1 HM2 HU1 HU2 HEM ⊢
            simp only at z0 z1 z2 HLA HLB HM1 HM2 HU1 HU2 HEM HW0 ⊢
            go_enter Try.func9, Try.ntmps9
            go_upto_region 1 with fail
            rw [← HW0.out]
            go_wp2_with fail
            refine HAW.out.mono ?_
            rintro e w1 ⟨rfl, k1⟩
            have HS1 := Lib.hid k1
            have HK1 := Lib.hid k1
            clear k1
            have HVA := Lib.hid (HVA.out.on HS1.out)
            have HVB := Lib.hid (HVB.out.on HS1.out)
            obtain ⟨hva0, hva1, hva2, hva3, hva4, hva5⟩ := HVA.out.box.c
            go_wp2_with fail
            refine (HLA.out _ HVA.out.at_).mono ?_
            rintro e w2 ⟨rfl, k2⟩
            have HS2 := Lib.hid k2
            clear k2
            have HK2 := Lib.hid (HK1.out.trans HS2.out)
            have HVA := Lib.hid (HVA.out.on HS2.out)
            have HVB := Lib.hid (HVB.out.on HS2.out)
            clear hva0 hva1 hva2 hva3 hva4 hva5
            obtain ⟨hvb0, hvb1, hvb2, hvb3, hvb4, hvb5⟩ := HVB.out.box.c
            go_wp2_with fail
            refine (HLB.out _ HVB.out.at_).mono ?_
            rintro e w3 ⟨rfl, k3⟩
            have HS3 := Lib.hid k3
            clear k3
            have HK3 := Lib.hid (HK2.out.trans HS3.out)
            have HVA := Lib.hid (HVA.out.on HS3.out)
            have HVB := Lib.hid (HVB.out.on HS3.out)
            clear hvb0 hvb1 hvb2 hvb3 hvb4 hvb5
            obtain ⟨hva0, hva1, hva2, hva3, hva4, hva5⟩ := HVA.out.box.c
            obtain ⟨hvb0, hvb1, hvb2, hvb3, hvb4, hvb5⟩ := HVB.out.box.c
            go_wp2_with fail
            refine (HM1.out _ HVA.out.at_ HVB.out.at_).mono ?_
            rintro e w4 ⟨pv, nv, rfl, m1, m2⟩
            obtain ⟨a4, q4, rfl⟩ := m1.slice
            obtain ⟨b4, r4, rfl⟩ := m2.slice
            unfold histV
            dsimp only
            have hs := m1.kept.alloc (.cells #[.int .i64 RM.sc, .int .u64 (RM.ze : Int), .int .i64 RM.po, .slice a4 (uvals RM.pl).length q4, .int .i64 RM.no, .slice b4 (uvals RM.nl).length r4] 27)
            have hv := HV.mk' m1 m2
            obtain ⟨ws4, hws⟩ : ∃ w', w' = w4.alloc (.cells #[.int .i64 RM.sc, .int .u64 (RM.ze : Int), .int .i64 RM.po, .slice a4 (uvals RM.pl).length q4, .int .i64 RM.no, .slice b4 (uvals RM.nl).length r4] 27) := ⟨_, rfl⟩
            rw [← hws] at hs hv
            have HS4 := Lib.hid hs
            have HV4 := Lib.hid hv
            have HWS4 := Lib.hid hws
            clear hs hv hws m1 m2
            have HK4 := Lib.hid (HK3.out.trans HS4.out)
            have HVA := Lib.hid (HVA.out.on HS4.out)
            have HVB := Lib.hid (HVB.out.on HS4.out)
            clear hva0 hva1 hva2 hva3 hva4 hva5 hvb0 hvb1 hvb2 hvb3 hvb4 hvb5
            go_upto_region 6 with fail
            rw [← HWS4.out]
            obtain ⟨hva0, hva1, hva2, hva3, hva4, hva5⟩ := HVA.out.box.c
            obtain ⟨hvb0, hvb1, hvb2, hvb3, hvb4, hvb5⟩ := HVB.out.box.c
            go_wp2_with fail
            refine (HM2.out _ HVA.out.at_ HVB.out.at_).mono ?_
            rintro e w5 ⟨pv, nv, rfl, m1, m2⟩
            obtain ⟨a5, q5, rfl⟩ := m1.slice
            obtain ⟨b5, r5, rfl⟩ := m2.slice
            unfold histV
            dsimp only
            have hs := m1.kept.alloc (.cells #[.int .i64 RM.sc, .int .u64 (RM.ze : Int), .int .i64 RM.po, .slice a5 (uvals RM.pl).length q5, .int .i64 RM.no, .slice b5 (uvals RM.nl).length r5] 27)
            have hv := HV.mk' m1 m2
            obtain ⟨ws5, hws⟩ : ∃ w', w' = w5.alloc (.cells #[.int .i64 RM.sc, .int .u64 (RM.ze : Int), .int .i64 RM.po, .slice a5 (uvals RM.pl).length q5, .int .i64 RM.no, .slice b5 (uvals RM.nl).length r5] 27) := ⟨_, rfl⟩
            rw [← hws] at hs hv
            have HS5 := Lib.hid hs
            have HV5 := Lib.hid hv
            have HWS5 := Lib.hid hws
            clear hs hv hws m1 m2
            have HK5 := Lib.hid (HK4.out.trans HS5.out)
            have HVA := Lib.hid (HVA.out.on HS5.out)
            have HVB := Lib.hid (HVB.out.on HS5.out)
            have HV4 := Lib.hid (HV4.out.on HS5.out)
            clear hva0 hva1 hva2 hva3 hva4 hva5 hvb0 hvb1 hvb2 hvb3 hvb4 hvb5
            go_upto_region 7 with fail
            rw [← HWS5.out]
            obtain ⟨hva0, hva1, hva2, hva3, hva4, hva5⟩ := HVA.out.box.c
            obtain ⟨hvb0, hvb1, hvb2, hvb3, hvb4, hvb5⟩ := HVB.out.box.c
            go_wp2_with fail
            refine (HU1.out _ HVA.out.at_ HVB.out.at_).mono ?_
            rintro e w6 ⟨R', E', hr, pv, nv, rfl, m1, m2⟩
            obtain ⟨rfl, rfl⟩ := HRS.out _ _ hr
            clear hr
            obtain ⟨a6, q6, rfl⟩ := m1.slice
            obtain ⟨b6, r6, rfl⟩ := m2.slice
            unfold histV
            dsimp only
            have hs := m1.kept.alloc (.cells #[.int .i64 RS.sc, .int .u64 (RS.ze : Int), .int .i64 RS.po, .slice a6 (uvals RS.pl).length q6, .int .i64 RS.no, .slice b6 (uvals RS.nl).length r6] 27)
            have hv := HV.mk' m1 m2
            obtain ⟨ws6, hws⟩ : ∃ w', w' = w6.alloc (.cells #[.int .i64 RS.sc, .int .u64 (RS.ze : Int), .int .i64 RS.po, .slice a6 (uvals RS.pl).length q6, .int .i64 RS.no, .slice b6 (uvals RS.nl).length r6] 27) := ⟨_, rfl⟩
            rw [← hws] at hs hv
            have HS6 := Lib.hid hs
            have HV6 := Lib.hid hv
            have HWS6 := Lib.hid hws
            clear hs hv hws m1 m2
            have HK6 := Lib.hid (HK5.out.trans HS6.out)
            have HVA := Lib.hid (HVA.out.on HS6.out)
            have HVB := Lib.hid (HVB.out.on HS6.out)
            have HV4 := Lib.hid (HV4.out.on HS6.out)
            have HV5 := Lib.hid (HV5.out.on HS6.out)
            clear hva0 hva1 hva2 hva3 hva4 hva5 hvb0 hvb1 hvb2 hvb3 hvb4 hvb5
            go_upto_region 8 with fail
            rw [← HWS6.out]
            obtain ⟨hva0, hva1, hva2, hva3, hva4, hva5⟩ := HVA.out.box.c
            obtain ⟨hvb0, hvb1, hvb2, hvb3, hvb4, hvb5⟩ := HVB.out.box.c
            go_wp2_with fail
            refine (HU2.out _ HVA.out.at_ HVB.out.at_).mono ?_
            rintro e w7 ⟨R', E', hr, pv, nv, rfl, m1, m2⟩
            obtain ⟨rfl, rfl⟩ := HRS.out _ _ hr
            clear hr
            obtain ⟨a7, q7, rfl⟩ := m1.slice
            obtain ⟨b7, r7, rfl⟩ := m2.slice
            unfold histV
            dsimp only
            have hs := m1.kept.alloc (.cells #[.int .i64 RS.sc, .int .u64 (RS.ze : Int), .int .i64 RS.po, .slice a7 (uvals RS.pl).length q7, .int .i64 RS.no, .slice b7 (uvals RS.nl).length r7] 27)
            have hv := HV.mk' m1 m2
            obtain ⟨ws7, hws⟩ : ∃ w', w' = w7.alloc (.cells #[.int .i64 RS.sc, .int .u64 (RS.ze : Int), .int .i64 RS.po, .slice a7 (uvals RS.pl).length q7, .int .i64 RS.no, .slice b7 (uvals RS.nl).length r7] 27) := ⟨_, rfl⟩
            rw [← hws] at hs hv
            have HS7 := Lib.hid hs
            have HV7 := Lib.hid hv
            have HWS7 := Lib.hid hws
            clear hs hv hws m1 m2
            have HK7 := Lib.hid (HK6.out.trans HS7.out)
            have HVA := Lib.hid (HVA.out.on HS7.out)
            have HVB := Lib.hid (HVB.out.on HS7.out)
            have HV4 := Lib.hid (HV4.out.on HS7.out)
            have HV5 := Lib.hid (HV5.out.on HS7.out)
            have HV6 := Lib.hid (HV6.out.on HS7.out)
            clear hva0 hva1 hva2 hva3 hva4 hva5 hvb0 hvb1 hvb2 hvb3 hvb4 hvb5
            go_upto_region 9 with fail
            rw [← HWS7.out]
            have HD0 := Lib.hid ((Kept.refl (fun _ => False) ws7).drew)
            have HV4x := Lib.hid (HV4.out.on HD0.out)
            have HV5x := Lib.hid (HV5.out.on HD0.out)
            have HV6x := Lib.hid (HV6.out.on HD0.out)
            have HV7x := Lib.hid (HV7.out.on HD0.out)
            have HVAx := Lib.hid (HVA.out.on HD0.out)
            have HKx := Lib.hid (HK7.out.trans HD0.out)
            have HSS0 : Hid ((fun w' => (w'.cell? ⟨w4.heap.size, 0, none⟩ = some (.int .i64 RM.sc) ∧ w'.cell? ⟨w4.heap.size, 1, none⟩ = some (.int .u64 (RM.ze : Int)) ∧ w'.cell? ⟨w4.heap.size, 2, none⟩ = some (.int .i64 RM.po) ∧ w'.cell? ⟨w4.heap.size, 3, none⟩ = some (.slice a4 (uvals RM.pl).length q4) ∧ w'.cell? ⟨w4.heap.size, 4, none⟩ = some (.int .i64 RM.no) ∧ w'.cell? ⟨w4.heap.size, 5, none⟩ = some (.slice b4 (uvals RM.nl).length r4)) ∧ (w'.cell? ⟨w5.heap.size, 0, none⟩ = some (.int .i64 RM.sc) ∧ w'.cell? ⟨w5.heap.size, 1, none⟩ = some (.int .u64 (RM.ze : Int)) ∧ w'.cell? ⟨w5.heap.size, 2, none⟩ = some (.int .i64 RM.po) ∧ w'.cell? ⟨w5.heap.size, 3, none⟩ = some (.slice a5 (uvals RM.pl).length q5) ∧ w'.cell? ⟨w5.heap.size, 4, none⟩ = some (.int .i64 RM.no) ∧ w'.cell? ⟨w5.heap.size, 5, none⟩ = some (.slice b5 (uvals RM.nl).length r5)) ∧ (w'.cell? ⟨w6.heap.size, 0, none⟩ = some (.int .i64 RS.sc) ∧ w'.cell? ⟨w6.heap.size, 1, none⟩ = some (.int .u64 (RS.ze : Int)) ∧ w'.cell? ⟨w6.heap.size, 2, none⟩ = some (.int .i64 RS.po) ∧ w'.cell? ⟨w6.heap.size, 3, none⟩ = some (.slice a6 (uvals RS.pl).length q6) ∧ w'.cell? ⟨w6.heap.size, 4, none⟩ = some (.int .i64 RS.no) ∧ w'.cell? ⟨w6.heap.size, 5, none⟩ = some (.slice b6 (uvals RS.nl).length r6)) ∧ (w'.cell? ⟨w7.heap.size, 0, none⟩ = some (.int .i64 RS.sc) ∧ w'.cell? ⟨w7.heap.size, 1, none⟩ = some (.int .u64 (RS.ze : Int)) ∧ w'.cell? ⟨w7.heap.size, 2, none⟩ = some (.int .i64 RS.po) ∧ w'.cell? ⟨w7.heap.size, 3, none⟩ = some (.slice a7 (uvals RS.pl).length q7) ∧ w'.cell? ⟨w7.heap.size, 4, none⟩ = some (.int .i64 RS.no) ∧ w'.cell? ⟨w7.heap.size, 5, none⟩ = some (.slice b7 (uvals RS.nl).length r7)) ∧ (w'.cell? ⟨W.heap.size, 0, none⟩ = some (.int .i64 asc) ∧ w'.cell? ⟨W.heap.size, 1, none⟩ = some (.int .u64 (aze : Int)) ∧ w'.cell? ⟨W.heap.size, 2, none⟩ = some (.int .i64 apo) ∧ w'.cell? ⟨W.heap.size, 3, none⟩ = some (.slice ao apl.length c) ∧ w'.cell? ⟨W.heap.size, 4, none⟩ = some (.int .i64 ano) ∧ w'.cell? ⟨W.heap.size, 5, none⟩ = some (.slice a1 anl.length c1))) ws7.drew) := Lib.hid ⟨HV4x.out.box.c, HV5x.out.box.c, HV6x.out.box.c, HV7x.out.box.c, HVAx.out.box.c⟩
            skip
            refine AnyBut.start (S := fun w' => (w'.cell? ⟨w4.heap.size, 0, none⟩ = some (.int .i64 RM.sc) ∧ w'.cell? ⟨w4.heap.size, 1, none⟩ = some (.int .u64 (RM.ze : Int)) ∧ w'.cell? ⟨w4.heap.size, 2, none⟩ = some (.int .i64 RM.po) ∧ w'.cell? ⟨w4.heap.size, 3, none⟩ = some (.slice a4 (uvals RM.pl).length q4) ∧ w'.cell? ⟨w4.heap.size, 4, none⟩ = some (.int .i64 RM.no) ∧ w'.cell? ⟨w4.heap.size, 5, none⟩ = some (.slice b4 (uvals RM.nl).length r4)) ∧ (w'.cell? ⟨w5.heap.size, 0, none⟩ = some (.int .i64 RM.sc) ∧ w'.cell? ⟨w5.heap.size, 1, none⟩ = some (.int .u64 (RM.ze : Int)) ∧ w'.cell? ⟨w5.heap.size, 2, none⟩ = some (.int .i64 RM.po) ∧ w'.cell? ⟨w5.heap.size, 3, none⟩ = some (.slice a5 (uvals RM.pl).length q5) ∧ w'.cell? ⟨w5.heap.size, 4, none⟩ = some (.int .i64 RM.no) ∧ w'.cell? ⟨w5.heap.size, 5, none⟩ = some (.slice b5 (uvals RM.nl).length r5)) ∧ (w'.cell? ⟨w6.heap.size, 0, none⟩ = some (.int .i64 RS.sc) ∧ w'.cell? ⟨w6.heap.size, 1, none⟩ = some (.int .u64 (RS.ze : Int)) ∧ w'.cell? ⟨w6.heap.size, 2, none⟩ = some (.int .i64 RS.po) ∧ w'.cell? ⟨w6.heap.size, 3, none⟩ = some (.slice a6 (uvals RS.pl).length q6) ∧ w'.cell? ⟨w6.heap.size, 4, none⟩ = some (.int .i64 RS.no) ∧ w'.cell? ⟨w6.heap.size, 5, none⟩ = some (.slice b6 (uvals RS.nl).length r6)) ∧ (w'.cell? ⟨w7.heap.size, 0, none⟩ = some (.int .i64 RS.sc) ∧ w'.cell? ⟨w7.heap.size, 1, none⟩ = some (.int .u64 (RS.ze : Int)) ∧ w'.cell? ⟨w7.heap.size, 2, none⟩ = some (.int .i64 RS.po) ∧ w'.cell? ⟨w7.heap.size, 3, none⟩ = some (.slice a7 (uvals RS.pl).length q7) ∧ w'.cell? ⟨w7.heap.size, 4, none⟩ = some (.int .i64 RS.no) ∧ w'.cell? ⟨w7.heap.size, 5, none⟩ = some (.slice b7 (uvals RS.nl).length r7)) ∧ (w'.cell? ⟨W.heap.size, 0, none⟩ = some (.int .i64 asc) ∧ w'.cell? ⟨W.heap.size, 1, none⟩ = some (.int .u64 (aze : Int)) ∧ w'.cell? ⟨W.heap.size, 2, none⟩ = some (.int .i64 apo) ∧ w'.cell? ⟨W.heap.size, 3, none⟩ = some (.slice ao apl.length c) ∧ w'.cell? ⟨W.heap.size, 4, none⟩ = some (.int .i64 ano) ∧ w'.cell? ⟨W.heap.size, 5, none⟩ = some (.slice a1 anl.length c1))) (k := 41) (by kernel_rfl) ?_
            refine AnyBut.takeS (i := 0) (v := ?v1) rfl (by kernel_rfl) (Nat.le_of_eq (by kernel_rfl)) (by kernel_rfl) (by kernel_rfl) (fun _ _ _ h => h) (HSS0.out) (Or.inl ⟨by kernel_rfl, ?hy1⟩) ?r1
            case hy1 =>
              intro w hSw
              try dsimp only at hSw
              go_simp
              try with_reducible rfl
            try simp only [Act.put, List.getElem_toArray, List.getElem_cons_zero, List.setIfInBounds_toArray, List.set_cons_zero, List.set_cons_succ]
            refine AnyBut.takeS (i := 1) (v := ?v2) rfl (by kernel_rfl) (Nat.le_of_eq (by kernel_rfl)) (by kernel_rfl) (by kernel_rfl) (fun _ _ _ h => h) (HSS0.out) (Or.inl ⟨by kernel_rfl, ?hy2⟩) ?r2
            case hy2 =>
              intro w hSw
              try dsimp only at hSw
              go_simp
              try with_reducible rfl
            try simp only [Act.put, List.getElem_toArray, List.getElem_cons_succ, List.getElem_cons_zero, List.setIfInBounds_toArray, List.set_cons_zero, List.set_cons_succ]
            refine AnyBut.one (i := 2) (by kernel_rfl) rfl (fun K hK => ?_)
            go_simp
            go_wp2_with fail
            refine (HSM.out _ _ _ _ _ HV4x.out.at_ HV5x.out.at_).mono ?_
            rintro e w8 ⟨rfl, k8⟩
            have HS8 := Lib.hid k8
            clear k8
            have HKy := Lib.hid (HKx.out.trans HS8.out)
            have HV4y := Lib.hid (HV4x.out.on HS8.out)
            have HV5y := Lib.hid (HV5x.out.on HS8.out)
            have HV6y := Lib.hid (HV6x.out.on HS8.out)
            have HV7y := Lib.hid (HV7x.out.on HS8.out)
            have HVAy := Lib.hid (HVAx.out.on HS8.out)
            have HSS8 : Hid ((fun w' => (w'.cell? ⟨w4.heap.size, 0, none⟩ = some (.int .i64 RM.sc) ∧ w'.cell? ⟨w4.heap.size, 1, none⟩ = some (.int .u64 (RM.ze : Int)) ∧ w'.cell? ⟨w4.heap.size, 2, none⟩ = some (.int .i64 RM.po) ∧ w'.cell? ⟨w4.heap.size, 3, none⟩ = some (.slice a4 (uvals RM.pl).length q4) ∧ w'.cell? ⟨w4.heap.size, 4, none⟩ = some (.int .i64 RM.no) ∧ w'.cell? ⟨w4.heap.size, 5, none⟩ = some (.slice b4 (uvals RM.nl).length r4)) ∧ (w'.cell? ⟨w5.heap.size, 0, none⟩ = some (.int .i64 RM.sc) ∧ w'.cell? ⟨w5.heap.size, 1, none⟩ = some (.int .u64 (RM.ze : Int)) ∧ w'.cell? ⟨w5.heap.size, 2, none⟩ = some (.int .i64 RM.po) ∧ w'.cell? ⟨w5.heap.size, 3, none⟩ = some (.slice a5 (uvals RM.pl).length q5) ∧ w'.cell? ⟨w5.heap.size, 4, none⟩ = some (.int .i64 RM.no) ∧ w'.cell? ⟨w5.heap.size, 5, none⟩ = some (.slice b5 (uvals RM.nl).length r5)) ∧ (w'.cell? ⟨w6.heap.size, 0, none⟩ = some (.int .i64 RS.sc) ∧ w'.cell? ⟨w6.heap.size, 1, none⟩ = some (.int .u64 (RS.ze : Int)) ∧ w'.cell? ⟨w6.heap.size, 2, none⟩ = some (.int .i64 RS.po) ∧ w'.cell? ⟨w6.heap.size, 3, none⟩ = some (.slice a6 (uvals RS.pl).length q6) ∧ w'.cell? ⟨w6.heap.size, 4, none⟩ = some (.int .i64 RS.no) ∧ w'.cell? ⟨w6.heap.size, 5, none⟩ = some (.slice b6 (uvals RS.nl).length r6)) ∧ (w'.cell? ⟨w7.heap.size, 0, none⟩ = some (.int .i64 RS.sc) ∧ w'.cell? ⟨w7.heap.size, 1, none⟩ = some (.int .u64 (RS.ze : Int)) ∧ w'.cell? ⟨w7.heap.size, 2, none⟩ = some (.int .i64 RS.po) ∧ w'.cell? ⟨w7.heap.size, 3, none⟩ = some (.slice a7 (uvals RS.pl).length q7) ∧ w'.cell? ⟨w7.heap.size, 4, none⟩ = some (.int .i64 RS.no) ∧ w'.cell? ⟨w7.heap.size, 5, none⟩ = some (.slice b7 (uvals RS.nl).length r7)) ∧ (w'.cell? ⟨W.heap.size, 0, none⟩ = some (.int .i64 asc) ∧ w'.cell? ⟨W.heap.size, 1, none⟩ = some (.int .u64 (aze : Int)) ∧ w'.cell? ⟨W.heap.size, 2, none⟩ = some (.int .i64 apo) ∧ w'.cell? ⟨W.heap.size, 3, none⟩ = some (.slice ao apl.length c) ∧ w'.cell? ⟨W.heap.size, 4, none⟩ = some (.int .i64 ano) ∧ w'.cell? ⟨W.heap.size, 5, none⟩ = some (.slice a1 anl.length c1))) w8) := Lib.hid ⟨HV4y.out.box.c, HV5y.out.box.c, HV6y.out.box.c, HV7y.out.box.c, HVAy.out.box.c⟩
            go_wp2
            refine hK.out _ _ (HSS8.out) ?_
            clear hK K
            try simp only [Act.put, List.getElem_toArray, List.getElem_cons_succ, List.getElem_cons_zero, List.setIfInBounds_toArray, List.set_cons_zero, List.set_cons_succ]
            refine AnyBut.takeS (i := 3) (v := ?v3) rfl (by kernel_rfl) (Nat.le_of_eq (by kernel_rfl)) (by kernel_rfl) (by kernel_rfl) (fun _ _ _ h => h) (HSS8.out) (Or.inl ⟨by kernel_rfl, ?hy3⟩) ?r3
            case hy3 =>
              intro w hSw
              try dsimp only at hSw
              go_simp
              try with_reducible rfl
            try simp only [Act.put, List.getElem_toArray, List.getElem_cons_succ, List.getElem_cons_zero, List.setIfInBounds_toArray, List.set_cons_zero, List.set_cons_succ]
            refine AnyBut.takeS (i := 4) (v := ?v4) rfl (by kernel_rfl) (Nat.le_of_eq (by kernel_rfl)) (by kernel_rfl) (by kernel_rfl) (fun _ _ _ h => h) (HSS8.out) (Or.inl ⟨by kernel_rfl, ?hy4⟩) ?r4
            case hy4 =>
              intro w hSw
              try dsimp only at hSw
              go_simp
              try with_reducible rfl
            try simp only [Act.put, List.getElem_toArray, List.getElem_cons_succ, List.getElem_cons_zero, List.setIfInBounds_toArray, List.set_cons_zero, List.set_cons_succ]
            refine AnyBut.takeS (i := 5) (v := ?v5) rfl (by kernel_rfl) (Nat.le_of_eq (by kernel_rfl)) (by kernel_rfl) (by kernel_rfl) (fun _ _ _ h => h) (HSS8.out) (Or.inl ⟨by kernel_rfl, ?hy5⟩) ?r5
            case hy5 =>
              intro w hSw
              try dsimp only at hSw
              go_simp
              try with_reducible rfl
            try simp only [Act.put, List.getElem_toArray, List.getElem_cons_succ, List.getElem_cons_zero, List.setIfInBounds_toArray, List.set_cons_zero, List.set_cons_succ]
            refine AnyBut.takeS (i := 6) (v := ?v6) rfl (by kernel_rfl) (Nat.le_of_eq (by kernel_rfl)) (by kernel_rfl) (by kernel_rfl) (fun _ _ _ h => h) (HSS8.out) (Or.inl ⟨by kernel_rfl, ?hy6⟩) ?r6
            case hy6 =>
              intro w hSw
              try dsimp only at hSw
              go_simp
              try with_reducible rfl
            try simp only [Act.put, List.getElem_toArray, List.getElem_cons_succ, List.getElem_cons_zero, List.setIfInBounds_toArray, List.set_cons_zero, List.set_cons_succ]
            refine AnyBut.takeS (i := 7) (v := ?v7) rfl (by kernel_rfl) (Nat.le_of_eq (by kernel_rfl)) (by kernel_rfl) (by kernel_rfl) (fun _ _ _ h => h) (HSS8.out) (Or.inl ⟨by kernel_rfl, ?hy7⟩) ?r7
            case hy7 =>
              intro w hSw
              try dsimp only at hSw
              go_simp
              try with_reducible rfl
            try simp only [Act.put, List.getElem_toArray, List.getElem_cons_succ, List.getElem_cons_zero, List.setIfInBounds_toArray, List.set_cons_zero, List.set_cons_succ]
            refine AnyBut.takeS (i := 8) (v := ?v8) rfl (by kernel_rfl) (Nat.le_of_eq (by kernel_rfl)) (by kernel_rfl) (by kernel_rfl) (fun _ _ _ h => h) (HSS8.out) (Or.inl ⟨by kernel_rfl, ?hy8⟩) ?r8
            case hy8 =>
              intro w hSw
              try dsimp only at hSw
              go_simp
              try with_reducible rfl
            try simp only [Act.put, List.getElem_toArray, List.getElem_cons_succ, List.getElem_cons_zero, List.setIfInBounds_toArray, List.set_cons_zero, List.set_cons_succ]
            refine AnyBut.takeS (i := 9) (v := ?v9) rfl (by kernel_rfl) (Nat.le_of_eq (by kernel_rfl)) (by kernel_rfl) (by kernel_rfl) (fun _ _ _ h => h) (HSS8.out) (Or.inl ⟨by kernel_rfl, ?hy9⟩) ?r9
            case hy9 =>
              intro w hSw
              try dsimp only at hSw
              go_simp
              try with_reducible rfl
            try simp only [Act.put, List.getElem_toArray, List.getElem_cons_succ, List.getElem_cons_zero, List.setIfInBounds_toArray, List.set_cons_zero, List.set_cons_succ]
            refine AnyBut.takeS (i := 10) (v := ?v10) rfl (by kernel_rfl) (Nat.le_of_eq (by kernel_rfl)) (by kernel_rfl) (by kernel_rfl) (fun _ _ _ h => h) (HSS8.out) (Or.inl ⟨by kernel_rfl, ?hy10⟩) ?r10
            case hy10 =>
              intro w hSw
              try dsimp only at hSw
              go_simp
              try with_reducible rfl
            try simp only [Act.put, List.getElem_toArray, List.getElem_cons_succ, List.getElem_cons_zero, List.setIfInBounds_toArray, List.set_cons_zero, List.set_cons_succ]
            refine AnyBut.one (i := 11) (by kernel_rfl) rfl (fun K hK => ?_)
            go_simp
            go_wp2_with fail
            refine (HSS.out _ _ _ _ _ HV6y.out.at_ HV7y.out.at_).mono ?_
            rintro e w9 ⟨rfl, k9⟩
            have HS9 := Lib.hid k9
            clear k9
            have HKz := Lib.hid (HKy.out.trans HS9.out)
            have HV4z := Lib.hid (HV4y.out.on HS9.out)
            have HV5z := Lib.hid (HV5y.out.on HS9.out)
            have HV6z := Lib.hid (HV6y.out.on HS9.out)
            have HV7z := Lib.hid (HV7y.out.on HS9.out)
            have HVAz := Lib.hid (HVAy.out.on HS9.out)
            have HSS9 : Hid ((fun w' => (w'.cell? ⟨w4.heap.size, 0, none⟩ = some (.int .i64 RM.sc) ∧ w'.cell? ⟨w4.heap.size, 1, none⟩ = some (.int .u64 (RM.ze : Int)) ∧ w'.cell? ⟨w4.heap.size, 2, none⟩ = some (.int .i64 RM.po) ∧ w'.cell? ⟨w4.heap.size, 3, none⟩ = some (.slice a4 (uvals RM.pl).length q4) ∧ w'.cell? ⟨w4.heap.size, 4, none⟩ = some (.int .i64 RM.no) ∧ w'.cell? ⟨w4.heap.size, 5, none⟩ = some (.slice b4 (uvals RM.nl).length r4)) ∧ (w'.cell? ⟨w5.heap.size, 0, none⟩ = some (.int .i64 RM.sc) ∧ w'.cell? ⟨w5.heap.size, 1, none⟩ = some (.int .u64 (RM.ze : Int)) ∧ w'.cell? ⟨w5.heap.size, 2, none⟩ = some (.int .i64 RM.po) ∧ w'.cell? ⟨w5.heap.size, 3, none⟩ = some (.slice a5 (uvals RM.pl).length q5) ∧ w'.cell? ⟨w5.heap.size, 4, none⟩ = some (.int .i64 RM.no) ∧ w'.cell? ⟨w5.heap.size, 5, none⟩ = some (.slice b5 (uvals RM.nl).length r5)) ∧ (w'.cell? ⟨w6.heap.size, 0, none⟩ = some (.int .i64 RS.sc) ∧ w'.cell? ⟨w6.heap.size, 1, none⟩ = some (.int .u64 (RS.ze : Int)) ∧ w'.cell? ⟨w6.heap.size, 2, none⟩ = some (.int .i64 RS.po) ∧ w'.cell? ⟨w6.heap.size, 3, none⟩ = some (.slice a6 (uvals RS.pl).length q6) ∧ w'.cell? ⟨w6.heap.size, 4, none⟩ = some (.int .i64 RS.no) ∧ w'.cell? ⟨w6.heap.size, 5, none⟩ = some (.slice b6 (uvals RS.nl).length r6)) ∧ (w'.cell? ⟨w7.heap.size, 0, none⟩ = some (.int .i64 RS.sc) ∧ w'.cell? ⟨w7.heap.size, 1, none⟩ = some (.int .u64 (RS.ze : Int)) ∧ w'.cell? ⟨w7.heap.size, 2, none⟩ = some (.int .i64 RS.po) ∧ w'.cell? ⟨w7.heap.size, 3, none⟩ = some (.slice a7 (uvals RS.pl).length q7) ∧ w'.cell? ⟨w7.heap.size, 4, none⟩ = some (.int .i64 RS.no) ∧ w'.cell? ⟨w7.heap.size, 5, none⟩ = some (.slice b7 (uvals RS.nl).length r7)) ∧ (w'.cell? ⟨W.heap.size, 0, none⟩ = some (.int .i64 asc) ∧ w'.cell? ⟨W.heap.size, 1, none⟩ = some (.int .u64 (aze : Int)) ∧ w'.cell? ⟨W.heap.size, 2, none⟩ = some (.int .i64 apo) ∧ w'.cell? ⟨W.heap.size, 3, none⟩ = some (.slice ao apl.length c) ∧ w'.cell? ⟨W.heap.size, 4, none⟩ = some (.int .i64 ano) ∧ w'.cell? ⟨W.heap.size, 5, none⟩ = some (.slice a1 anl.length c1))) w9) := Lib.hid ⟨HV4z.out.box.c, HV5z.out.box.c, HV6z.out.box.c, HV7z.out.box.c, HVAz.out.box.c⟩
            go_wp2
            refine hK.out _ _ (HSS9.out) ?_
            clear hK K
            try simp only [Act.put, List.getElem_toArray, List.getElem_cons_succ, List.getElem_cons_zero, List.setIfInBounds_toArray, List.set_cons_zero, List.set_cons_succ]
            refine AnyBut.takeS (i := 12) (v := ?v11) rfl (by kernel_rfl) (Nat.le_of_eq (by kernel_rfl)) (by kernel_rfl) (by kernel_rfl) (fun _ _ _ h => h) (HSS9.out) (Or.inl ⟨by kernel_rfl, ?hy11⟩) ?r11
            case hy11 =>
              intro w hSw
              try dsimp only at hSw
              go_simp
              try with_reducible rfl
            try simp only [Act.put, List.getElem_toArray, List.getElem_cons_succ, List.getElem_cons_zero, List.setIfInBounds_toArray, List.set_cons_zero, List.set_cons_succ]
            refine AnyBut.takeS (i := 13) (v := ?v12) rfl (by kernel_rfl) (Nat.le_of_eq (by kernel_rfl)) (by kernel_rfl) (by kernel_rfl) (fun _ _ _ h => h) (HSS9.out) (Or.inl ⟨by kernel_rfl, ?hy12⟩) ?r12
            case hy12 =>
              intro w hSw
              try dsimp only at hSw
              go_simp
              try with_reducible rfl
            try simp only [Act.put, List.getElem_toArray, List.getElem_cons_succ, List.getElem_cons_zero, List.setIfInBounds_toArray, List.set_cons_zero, List.set_cons_succ]
            refine AnyBut.takeS (i := 14) (v := ?v13) rfl (by kernel_rfl) (Nat.le_of_eq (by kernel_rfl)) (by kernel_rfl) (by kernel_rfl) (fun _ _ _ h => h) (HSS9.out) (Or.inl ⟨by kernel_rfl, ?hy13⟩) ?r13
            case hy13 =>
              intro w hSw
              try dsimp only at hSw
              go_simp
              try with_reducible rfl
            try simp only [Act.put, List.getElem_toArray, List.getElem_cons_succ, List.getElem_cons_zero, List.setIfInBounds_toArray, List.set_cons_zero, List.set_cons_succ]
            refine AnyBut.takeS (i := 15) (v := ?v14) rfl (by kernel_rfl) (Nat.le_of_eq (by kernel_rfl)) (by kernel_rfl) (by kernel_rfl) (fun _ _ _ h => h) (HSS9.out) (Or.inl ⟨by kernel_rfl, ?hy14⟩) ?r14
            case hy14 =>
              intro w hSw
              try dsimp only at hSw
              go_simp
              try with_reducible rfl
            try simp only [Act.put, List.getElem_toArray, List.getElem_cons_succ, List.getElem_cons_zero, List.setIfInBounds_toArray, List.set_cons_zero, List.set_cons_succ]
            refine AnyBut.takeS (i := 16) (v := ?v15) rfl (by kernel_rfl) (Nat.le_of_eq (by kernel_rfl)) (by kernel_rfl) (by kernel_rfl) (fun _ _ _ h => h) (HSS9.out) (Or.inl ⟨by kernel_rfl, ?hy15⟩) ?r15
            case hy15 =>
              intro w hSw
              try dsimp only at hSw
              go_simp
              try with_reducible rfl
            try simp only [Act.put, List.getElem_toArray, List.getElem_cons_succ, List.getElem_cons_zero, List.setIfInBounds_toArray, List.set_cons_zero, List.set_cons_succ]
            refine AnyBut.takeS (i := 17) (v := ?v16) rfl (by kernel_rfl) (Nat.le_of_eq (by kernel_rfl)) (by kernel_rfl) (by kernel_rfl) (fun _ _ _ h => h) (HSS9.out) (Or.inl ⟨by kernel_rfl, ?hy16⟩) ?r16
            case hy16 =>
              intro w hSw
              try dsimp only at hSw
              go_simp
              try with_reducible rfl
            try simp only [Act.put, List.getElem_toArray, List.getElem_cons_succ, List.getElem_cons_zero, List.setIfInBounds_toArray, List.set_cons_zero, List.set_cons_succ]
            refine AnyBut.takeS (i := 18) (v := ?v17) rfl (by kernel_rfl) (Nat.le_of_eq (by kernel_rfl)) (by kernel_rfl) (by kernel_rfl) (fun _ _ _ h => h) (HSS9.out) (Or.inl ⟨by kernel_rfl, ?hy17⟩) ?r17
            case hy17 =>
              intro w hSw
              try dsimp only at hSw
              go_simp
              try with_reducible rfl
            try simp only [Act.put, List.getElem_toArray, List.getElem_cons_succ, List.getElem_cons_zero, List.setIfInBounds_toArray, List.set_cons_zero, List.set_cons_succ]
            refine AnyBut.takeS (i := 19) (v := ?v18) rfl (by kernel_rfl) (Nat.le_of_eq (by kernel_rfl)) (by kernel_rfl) (by kernel_rfl) (fun _ _ _ h => h) (HSS9.out) (Or.inl ⟨by kernel_rfl, ?hy18⟩) ?r18
            case hy18 =>
              intro w hSw
              try dsimp only at hSw
              go_simp
              try with_reducible rfl
            try simp only [Act.put, List.getElem_toArray, List.getElem_cons_succ, List.getElem_cons_zero, List.setIfInBounds_toArray, List.set_cons_zero, List.set_cons_succ]
            refine AnyBut.takeS (i := 21) (v := ?v19) rfl (by kernel_rfl) (Nat.le_of_eq (by kernel_rfl)) (by kernel_rfl) (by kernel_rfl) (fun _ _ _ h => h) (HSS9.out) (Or.inl ⟨by kernel_rfl, ?hy19⟩) ?r19
            case hy19 =>
              intro w hSw
              try dsimp only at hSw
              go_simp
              try with_reducible rfl
            try simp only [Act.put, List.getElem_toArray, List.getElem_cons_succ, List.getElem_cons_zero, List.setIfInBounds_toArray, List.set_cons_zero, List.set_cons_succ]
            refine AnyBut.takeS (i := 22) (v := ?v20) rfl (by kernel_rfl) (Nat.le_of_eq (by kernel_rfl)) (by kernel_rfl) (by kernel_rfl) (fun _ _ _ h => h) (HSS9.out) (Or.inl ⟨by kernel_rfl, ?hy20⟩) ?r20
            case hy20 =>
              intro w hSw
              try dsimp only at hSw
              go_simp
              try with_reducible rfl
            try simp only [Act.put, List.getElem_toArray, List.getElem_cons_succ, List.getElem_cons_zero, List.setIfInBounds_toArray, List.set_cons_zero, List.set_cons_succ]
            refine AnyBut.takeS (i := 23) (v := ?v21) rfl (by kernel_rfl) (Nat.le_of_eq (by kernel_rfl)) (by kernel_rfl) (by kernel_rfl) (fun _ _ _ h => h) (HSS9.out) (Or.inl ⟨by kernel_rfl, ?hy21⟩) ?r21
            case hy21 =>
              intro w hSw
              try dsimp only at hSw
              go_simp
              try with_reducible rfl
            try simp only [Act.put, List.getElem_toArray, List.getElem_cons_succ, List.getElem_cons_zero, List.setIfInBounds_toArray, List.set_cons_zero, List.set_cons_succ]
            refine AnyBut.one (i := 20) (by kernel_rfl) rfl (fun K hK => ?_)
            go_simp
            go_wp2_with fail
            refine (HEM.out _ HVAz.out.at_).mono ?_
            rintro e w10 ⟨rfl, k10⟩
            have HS10 := Lib.hid k10
            clear k10
            have HKu := Lib.hid (HKz.out.trans HS10.out)
            have HV4u := Lib.hid (HV4z.out.on HS10.out)
            have HV5u := Lib.hid (HV5z.out.on HS10.out)
            have HV6u := Lib.hid (HV6z.out.on HS10.out)
            have HV7u := Lib.hid (HV7z.out.on HS10.out)
            have HVAu := Lib.hid (HVAz.out.on HS10.out)
            have HSS10 : Hid ((fun w' => (w'.cell? ⟨w4.heap.size, 0, none⟩ = some (.int .i64 RM.sc) ∧ w'.cell? ⟨w4.heap.size, 1, none⟩ = some (.int .u64 (RM.ze : Int)) ∧ w'.cell? ⟨w4.heap.size, 2, none⟩ = some (.int .i64 RM.po) ∧ w'.cell? ⟨w4.heap.size, 3, none⟩ = some (.slice a4 (uvals RM.pl).length q4) ∧ w'.cell? ⟨w4.heap.size, 4, none⟩ = some (.int .i64 RM.no) ∧ w'.cell? ⟨w4.heap.size, 5, none⟩ = some (.slice b4 (uvals RM.nl).length r4)) ∧ (w'.cell? ⟨w5.heap.size, 0, none⟩ = some (.int .i64 RM.sc) ∧ w'.cell? ⟨w5.heap.size, 1, none⟩ = some (.int .u64 (RM.ze : Int)) ∧ w'.cell? ⟨w5.heap.size, 2, none⟩ = some (.int .i64 RM.po) ∧ w'.cell? ⟨w5.heap.size, 3, none⟩ = some (.slice a5 (uvals RM.pl).length q5) ∧ w'.cell? ⟨w5.heap.size, 4, none⟩ = some (.int .i64 RM.no) ∧ w'.cell? ⟨w5.heap.size, 5, none⟩ = some (.slice b5 (uvals RM.nl).length r5)) ∧ (w'.cell? ⟨w6.heap.size, 0, none⟩ = some (.int .i64 RS.sc) ∧ w'.cell? ⟨w6.heap.size, 1, none⟩ = some (.int .u64 (RS.ze : Int)) ∧ w'.cell? ⟨w6.heap.size, 2, none⟩ = some (.int .i64 RS.po) ∧ w'.cell? ⟨w6.heap.size, 3, none⟩ = some (.slice a6 (uvals RS.pl).length q6) ∧ w'.cell? ⟨w6.heap.size, 4, none⟩ = some (.int .i64 RS.no) ∧ w'.cell? ⟨w6.heap.size, 5, none⟩ = some (.slice b6 (uvals RS.nl).length r6)) ∧ (w'.cell? ⟨w7.heap.size, 0, none⟩ = some (.int .i64 RS.sc) ∧ w'.cell? ⟨w7.heap.size, 1, none⟩ = some (.int .u64 (RS.ze : Int)) ∧ w'.cell? ⟨w7.heap.size, 2, none⟩ = some (.int .i64 RS.po) ∧ w'.cell? ⟨w7.heap.size, 3, none⟩ = some (.slice a7 (uvals RS.pl).length q7) ∧ w'.cell? ⟨w7.heap.size, 4, none⟩ = some (.int .i64 RS.no) ∧ w'.cell? ⟨w7.heap.size, 5, none⟩ = some (.slice b7 (uvals RS.nl).length r7)) ∧ (w'.cell? ⟨W.heap.size, 0, none⟩ = some (.int .i64 asc) ∧ w'.cell? ⟨W.heap.size, 1, none⟩ = some (.int .u64 (aze : Int)) ∧ w'.cell? ⟨W.heap.size, 2, none⟩ = some (.int .i64 apo) ∧ w'.cell? ⟨W.heap.size, 3, none⟩ = some (.slice ao apl.length c) ∧ w'.cell? ⟨W.heap.size, 4, none⟩ = some (.int .i64 ano) ∧ w'.cell? ⟨W.heap.size, 5, none⟩ = some (.slice a1 anl.length c1))) w10) := Lib.hid ⟨HV4u.out.box.c, HV5u.out.box.c, HV6u.out.box.c, HV7u.out.box.c, HVAu.out.box.c⟩
            go_wp2
            refine hK.out _ _ (HSS10.out) ?_
            clear hK K
            try simp only [Act.put, List.getElem_toArray, List.getElem_cons_succ, List.getElem_cons_zero, List.setIfInBounds_toArray, List.set_cons_zero, List.set_cons_succ]
            refine AnyBut.takeS (i := 24) (v := ?v22) rfl (by kernel_rfl) (Nat.le_of_eq (by kernel_rfl)) (by kernel_rfl) (by kernel_rfl) (fun _ _ _ h => h) (HSS10.out) (Or.inl ⟨by kernel_rfl, ?hy22⟩) ?r22
            case hy22 =>
              intro w hSw
              try dsimp only at hSw
              go_simp
              try with_reducible rfl
            try simp only [Act.put, List.getElem_toArray, List.getElem_cons_succ, List.getElem_cons_zero, List.setIfInBounds_toArray, List.set_cons_zero, List.set_cons_succ]
            refine AnyBut.takeS (i := 25) (v := ?v23) rfl (by kernel_rfl) (Nat.le_of_eq (by kernel_rfl)) (by kernel_rfl) (by kernel_rfl) (fun _ _ _ h => h) (HSS10.out) (Or.inl ⟨by kernel_rfl, ?hy23⟩) ?r23
            case hy23 =>
              intro w hSw
              try dsimp only at hSw
              go_simp
              try with_reducible rfl
            try simp only [Act.put, List.getElem_toArray, List.getElem_cons_succ, List.getElem_cons_zero, List.setIfInBounds_toArray, List.set_cons_zero, List.set_cons_succ]
            refine AnyBut.takeS (i := 26) (v := ?v24) rfl (by kernel_rfl) (Nat.le_of_eq (by kernel_rfl)) (by kernel_rfl) (by kernel_rfl) (fun _ _ _ h => h) (HSS10.out) (Or.inl ⟨by kernel_rfl, ?hy24⟩) ?r24
            case hy24 =>
              intro w hSw
              try dsimp only at hSw
              go_simp
              try with_reducible rfl
            try simp only [Act.put, List.getElem_toArray, List.getElem_cons_succ, List.getElem_cons_zero, List.setIfInBounds_toArray, List.set_cons_zero, List.set_cons_succ]
            refine AnyBut.takeS (i := 27) (v := ?v25) rfl (by kernel_rfl) (Nat.le_of_eq (by kernel_rfl)) (by kernel_rfl) (by kernel_rfl) (fun _ _ _ h => h) (HSS10.out) (Or.inl ⟨by kernel_rfl, ?hy25⟩) ?r25
            case hy25 =>
              intro w hSw
              try dsimp only at hSw
              go_simp
              try with_reducible rfl
            try simp only [Act.put, List.getElem_toArray, List.getElem_cons_succ, List.getElem_cons_zero, List.setIfInBounds_toArray, List.set_cons_zero, List.set_cons_succ]
            refine AnyBut.takeS (i := 28) (v := ?v26) rfl (by kernel_rfl) (Nat.le_of_eq (by kernel_rfl)) (by kernel_rfl) (by kernel_rfl) (fun _ _ _ h => h) (HSS10.out) (Or.inl ⟨by kernel_rfl, ?hy26⟩) ?r26
            case hy26 =>
              intro w hSw
              try dsimp only at hSw
              go_simp
              try with_reducible rfl
            try simp only [Act.put, List.getElem_toArray, List.getElem_cons_succ, List.getElem_cons_zero, List.setIfInBounds_toArray, List.set_cons_zero, List.set_cons_succ]
            refine AnyBut.takeS (i := 29) (v := ?v27) rfl (by kernel_rfl) (Nat.le_of_eq (by kernel_rfl)) (by kernel_rfl) (by kernel_rfl) (fun _ _ _ h => h) (HSS10.out) (Or.inl ⟨by kernel_rfl, ?hy27⟩) ?r27
            case hy27 =>
              intro w hSw
              try dsimp only at hSw
              go_simp
              try with_reducible rfl
            try simp only [Act.put, List.getElem_toArray, List.getElem_cons_succ, List.getElem_cons_zero, List.setIfInBounds_toArray, List.set_cons_zero, List.set_cons_succ]
            refine AnyBut.takeS (i := 30) (v := ?v28) rfl (by kernel_rfl) (Nat.le_of_eq (by kernel_rfl)) (by kernel_rfl) (by kernel_rfl) (fun _ _ _ h => h) (HSS10.out) (Or.inl ⟨by kernel_rfl, ?hy28⟩) ?r28
            case hy28 =>
              intro w hSw
              try dsimp only at hSw
              go_simp
              try with_reducible rfl
            try simp only [Act.put, List.getElem_toArray, List.getElem_cons_succ, List.getElem_cons_zero, List.setIfInBounds_toArray, List.set_cons_zero, List.set_cons_succ]
            refine AnyBut.takeS (i := 31) (v := ?v29) rfl (by kernel_rfl) (Nat.le_of_eq (by kernel_rfl)) (by kernel_rfl) (by kernel_rfl) (fun _ _ _ h => h) (HSS10.out) (Or.inl ⟨by kernel_rfl, ?hy29⟩) ?r29
            case hy29 =>
              intro w hSw
              try dsimp only at hSw
              go_simp
              try with_reducible rfl
            try simp only [Act.put, List.getElem_toArray, List.getElem_cons_succ, List.getElem_cons_zero, List.setIfInBounds_toArray, List.set_cons_zero, List.set_cons_succ]
            refine AnyBut.takeS (i := 32) (v := ?v30) rfl (by kernel_rfl) (Nat.le_of_eq (by kernel_rfl)) (by kernel_rfl) (by kernel_rfl) (fun _ _ _ h => h) (HSS10.out) (Or.inl ⟨by kernel_rfl, ?hy30⟩) ?r30
            case hy30 =>
              intro w hSw
              try dsimp only at hSw
              go_simp
              try with_reducible rfl
            try simp only [Act.put, List.getElem_toArray, List.getElem_cons_succ, List.getElem_cons_zero, List.setIfInBounds_toArray, List.set_cons_zero, List.set_cons_succ]
            refine AnyBut.takeS (i := 33) (v := ?v31) rfl (by kernel_rfl) (Nat.le_of_eq (by kernel_rfl)) (by kernel_rfl) (by kernel_rfl) (fun _ _ _ h => h) (HSS10.out) (Or.inl ⟨by kernel_rfl, ?hy31⟩) ?r31
            case hy31 =>
              intro w hSw
              try dsimp only at hSw
              go_simp
              try with_reducible rfl
            try simp only [Act.put, List.getElem_toArray, List.getElem_cons_succ, List.getElem_cons_zero, List.setIfInBounds_toArray, List.set_cons_zero, List.set_cons_succ]
            refine AnyBut.takeS (i := 34) (v := ?v32) rfl (by kernel_rfl) (Nat.le_of_eq (by kernel_rfl)) (by kernel_rfl) (by kernel_rfl) (fun _ _ _ h => h) (HSS10.out) (Or.inl ⟨by kernel_rfl, ?hy32⟩) ?r32
            case hy32 =>
              intro w hSw
              try dsimp only at hSw
              go_simp
              try with_reducible rfl
            try simp only [Act.put, List.getElem_toArray, List.getElem_cons_succ, List.getElem_cons_zero, List.setIfInBounds_toArray, List.set_cons_zero, List.set_cons_succ]
            refine AnyBut.takeS (i := 35) (v := ?v33) rfl (by kernel_rfl) (Nat.le_of_eq (by kernel_rfl)) (by kernel_rfl) (by kernel_rfl) (fun _ _ _ h => h) (HSS10.out) (Or.inl ⟨by kernel_rfl, ?hy33⟩) ?r33
            case hy33 =>
              intro w hSw
              try dsimp only at hSw
              go_simp
              try with_reducible rfl
            try simp only [Act.put, List.getElem_toArray, List.getElem_cons_succ, List.getElem_cons_zero, List.setIfInBounds_toArray, List.set_cons_zero, List.set_cons_succ]
            refine AnyBut.takeS (i := 36) (v := ?v34) rfl (by kernel_rfl) (Nat.le_of_eq (by kernel_rfl)) (by kernel_rfl) (by kernel_rfl) (fun _ _ _ h => h) (HSS10.out) (Or.inl ⟨by kernel_rfl, ?hy34⟩) ?r34
            case hy34 =>
              intro w hSw
              try dsimp only at hSw
              go_simp
              try with_reducible rfl
            try simp only [Act.put, List.getElem_toArray, List.getElem_cons_succ, List.getElem_cons_zero, List.setIfInBounds_toArray, List.set_cons_zero, List.set_cons_succ]
            refine AnyBut.takeS (i := 37) (v := ?v35) rfl (by kernel_rfl) (Nat.le_of_eq (by kernel_rfl)) (by kernel_rfl) (by kernel_rfl) (fun _ _ _ h => h) (HSS10.out) (Or.inl ⟨by kernel_rfl, ?hy35⟩) ?r35
            case hy35 =>
              intro w hSw
              try dsimp only at hSw
              go_simp
              try with_reducible rfl
            try simp only [Act.put, List.getElem_toArray, List.getElem_cons_succ, List.getElem_cons_zero, List.setIfInBounds_toArray, List.set_cons_zero, List.set_cons_succ]
            refine AnyBut.takeS (i := 38) (v := ?v36) rfl (by kernel_rfl) (Nat.le_of_eq (by kernel_rfl)) (by kernel_rfl) (by kernel_rfl) (fun _ _ _ h => h) (HSS10.out) (Or.inl ⟨by kernel_rfl, ?hy36⟩) ?r36
            case hy36 =>
              intro w hSw
              try dsimp only at hSw
              go_simp
              try with_reducible rfl
            try simp only [Act.put, List.getElem_toArray, List.getElem_cons_succ, List.getElem_cons_zero, List.setIfInBounds_toArray, List.set_cons_zero, List.set_cons_succ]
            refine AnyBut.takeS (i := 39) (v := ?v37) rfl (by kernel_rfl) (Nat.le_of_eq (by kernel_rfl)) (by kernel_rfl) (by kernel_rfl) (fun _ _ _ h => h) (HSS10.out) (Or.inl ⟨by kernel_rfl, ?hy37⟩) ?r37
            case hy37 =>
              intro w hSw
              try dsimp only at hSw
              go_simp
              try with_reducible rfl
            try simp only [Act.put, List.getElem_toArray, List.getElem_cons_succ, List.getElem_cons_zero, List.setIfInBounds_toArray, List.set_cons_zero, List.set_cons_succ]
            refine AnyBut.takeS (i := 40) (v := ?v38) rfl (by kernel_rfl) (Nat.le_of_eq (by kernel_rfl)) (by kernel_rfl) (by kernel_rfl) (fun _ _ _ h => h) (HSS10.out) (Or.inl ⟨by kernel_rfl, ?hy38⟩) ?r38
            case hy38 =>
              intro w hSw
              try dsimp only at hSw
              go_simp
              try with_reducible rfl
            try simp only [Act.put, List.getElem_toArray, List.getElem_cons_succ, List.getElem_cons_zero, List.setIfInBounds_toArray, List.set_cons_zero, List.set_cons_succ]
            refine AnyBut.done (by kernel_rfl) ?_
            go_wp2
            go_ret
            exact ⟨by kernel_rfl, HKW.out.trans HKu.out⟩
          · have z2 : ((a.nl.length : Int) == 0) = false := beqF (by omega)
            rw [decide_eq_false (by omega)] at HEM
            clear h0 h1 h2
            clear hrs hPS hRM hEM lm ls ha hb hla hlb k0 hw0
            obtain ⟨asc, aze, apo, apl, ano, anl⟩ := a
            obtain ⟨bsc, bze, bpo, bpl, bno, bnl⟩ := b
            unfold histV at HLA HLB HM1 HM2 HU1 HU2 HEM ⊢
            simp only at z0 z1 z2 HLA HLB HM1 HM2 HU1 HU2 HEM HW0 ⊢
            go_enter Try.func9, Try.ntmps9
            go_upto_region 1 with fail
            rw [← HW0.out]
            go_wp2_with fail
            refine HAW.out.mono ?_
            rintro e w1 ⟨rfl, k1⟩
            have HS1 := Lib.hid k1
            have HK1 := Lib.hid k1
            clear k1
            have HVA := Lib.hid (HVA.out.on HS1.out)
            have HVB := Lib.hid (HVB.out.on HS1.out)
            obtain ⟨hva0, hva1, hva2, hva3, hva4, hva5⟩ := HVA.out.box.c
            go_wp2_with fail
            refine (HLA.out _ HVA.out.at_).mono ?_
            rintro e w2 ⟨rfl, k2⟩
            have HS2 := Lib.hid k2
            clear k2
            have HK2 := Lib.hid (HK1.out.trans HS2.out)
            have HVA := Lib.hid (HVA.out.on HS2.out)
            have HVB := Lib.hid (HVB.out.on HS2.out)
            clear hva0 hva1 hva2 hva3 hva4 hva5
            obtain ⟨hvb0, hvb1, hvb2, hvb3, hvb4, hvb5⟩ := HVB.out.box.c
            go_wp2_with fail
            refine (HLB.out _ HVB.out.at_).mono ?_
            rintro e w3 ⟨rfl, k3⟩
            have HS3 := Lib.hid k3
            clear k3
            have HK3 := Lib.hid (HK2.out.trans HS3.out)
            have HVA := Lib.hid (HVA.out.on HS3.out)
            have HVB := Lib.hid (HVB.out.on HS3.out)
            clear hvb0 hvb1 hvb2 hvb3 hvb4 hvb5
            obtain ⟨hva0, hva1, hva2, hva3, hva4, hva5⟩ := HVA.out.box.c
            obtain ⟨hvb0, hvb1, hvb2, hvb3, hvb4, hvb5⟩ := HVB.out.box.c
            go_wp2_with fail
            refine (HM1.out _ HVA.out.at_ HVB.out.at_).mono ?_
            rintro e w4 ⟨pv, nv, rfl, m1, m2⟩
            obtain ⟨a4, q4, rfl⟩ := m1.slice
            obtain ⟨b4, r4, rfl⟩ := m2.slice
            unfold histV
            dsimp only
            have hs := m1.kept.alloc (.cells #[.int .i64 RM.sc, .int .u64 (RM.ze : Int), .int .i64 RM.po, .slice a4 (uvals RM.pl).length q4, .int .i64 RM.no, .slice b4 (uvals RM.nl).length r4] 27)
            have hv := HV.mk' m1 m2
            obtain ⟨ws4, hws⟩ : ∃ w', w' = w4.alloc (.cells #[.int .i64 RM.sc, .int .u64 (RM.ze : Int), .int .i64 RM.po, .slice a4 (uvals RM.pl).length q4, .int .i64 RM.no, .slice b4 (uvals RM.nl).length r4] 27) := ⟨_, rfl⟩
            rw [← hws] at hs hv
            have HS4 := Lib.hid hs
            have HV4 := Lib.hid hv
            have HWS4 := Lib.hid hws
            clear hs hv hws m1 m2
            have HK4 := Lib.hid (HK3.out.trans HS4.out)
            have HVA := Lib.hid (HVA.out.on HS4.out)
            have HVB := Lib.hid (HVB.out.on HS4.out)
            clear hva0 hva1 hva2 hva3 hva4 hva5 hvb0 hvb1 hvb2 hvb3 hvb4 hvb5
            go_upto_region 6 with fail
            rw [← HWS4.out]
            obtain ⟨hva0, hva1, hva2, hva3, hva4, hva5⟩ := HVA.out.box.c
            obtain ⟨hvb0, hvb1, hvb2, hvb3, hvb4, hvb5⟩ := HVB.out.box.c
            go_wp2_with fail
            refine (HM2.out _ HVA.out.at_ HVB.out.at_).mono ?_
            rintro e w5 ⟨pv, nv, rfl, m1, m2⟩
            obtain ⟨a5, q5, rfl⟩ := m1.slice
            obtain ⟨b5, r5, rfl⟩ := m2.slice
            unfold histV
            dsimp only
            have hs := m1.kept.alloc (.cells #[.int .i64 RM.sc, .int .u64 (RM.ze : Int), .int .i64 RM.po, .slice a5 (uvals RM.pl).length q5, .int .i64 RM.no, .slice b5 (uvals RM.nl).length r5] 27)
            have hv := HV.mk' m1 m2
            obtain ⟨ws5, hws⟩ : ∃ w', w' = w5.alloc (.cells #[.int .i64 RM.sc, .int .u64 (RM.ze : Int), .int .i64 RM.po, .slice a5 (uvals RM.pl).length q5, .int .i64 RM.no, .slice b5 (uvals RM.nl).length r5] 27) := ⟨_, rfl⟩
            rw [← hws] at hs hv
            have HS5 := Lib.hid hs
            have HV5 := Lib.hid hv
            have HWS5 := Lib.hid hws
            clear hs hv hws m1 m2
            have HK5 := Lib.hid (HK4.out.trans HS5.out)
            have HVA := Lib.hid (HVA.out.on HS5.out)
            have HVB := Lib.hid (HVB.out.on HS5.out)
            have HV4 := Lib.hid (HV4.out.on HS5.out)
            clear hva0 hva1 hva2 hva3 hva4 hva5 hvb0 hvb1 hvb2 hvb3 hvb4 hvb5
            go_upto_region 7 with fail
            rw [← HWS5.out]
            obtain ⟨hva0, hva1, hva2, hva3, hva4, hva5⟩ := HVA.out.box.c
            obtain ⟨hvb0, hvb1, hvb2, hvb3, hvb4, hvb5⟩ := HVB.out.box.c
            go_wp2_with fail
            refine (HU1.out _ HVA.out.at_ HVB.out.at_).mono ?_
            rintro e w6 ⟨R', E', hr, pv, nv, rfl, m1, m2⟩
            obtain ⟨rfl, rfl⟩ := HRS.out _ _ hr
            clear hr
            obtain ⟨a6, q6, rfl⟩ := m1.slice
            obtain ⟨b6, r6, rfl⟩ := m2.slice
            unfold histV
            dsimp only
            have hs := m1.kept.alloc (.cells #[.int .i64 RS.sc, .int .u64 (RS.ze : Int), .int .i64 RS.po, .slice a6 (uvals RS.pl).length q6, .int .i64 RS.no, .slice b6 (uvals RS.nl).length r6] 27)
            have hv := HV.mk' m1 m2
            obtain ⟨ws6, hws⟩ : ∃ w', w' = w6.alloc (.cells #[.int .i64 RS.sc, .int .u64 (RS.ze : Int), .int .i64 RS.po, .slice a6 (uvals RS.pl).length q6, .int .i64 RS.no, .slice b6 (uvals RS.nl).length r6] 27) := ⟨_, rfl⟩
            rw [← hws] at hs hv
            have HS6 := Lib.hid hs
            have HV6 := Lib.hid hv
            have HWS6 := Lib.hid hws
            clear hs hv hws m1 m2
            have HK6 := Lib.hid (HK5.out.trans HS6.out)
            have HVA := Lib.hid (HVA.out.on HS6.out)
            have HVB := Lib.hid (HVB.out.on HS6.out)
            have HV4 := Lib.hid (HV4.out.on HS6.out)
            have HV5 := Lib.hid (HV5.out.on HS6.out)
            clear hva0 hva1 hva2 hva3 hva4 hva5 hvb0 hvb1 hvb2 hvb3 hvb4 hvb5
            go_upto_region 8 with fail
            rw [← HWS6.out]
            obtain ⟨hva0, hva1, hva2, hva3, hva4, hva5⟩ := HVA.out.box.c
            obtain ⟨hvb0, hvb1, hvb2, hvb3, hvb4, hvb5⟩ := HVB.out.box.c
            go_wp2_with fail
            refine (HU2.out _ HVA.out.at_ HVB.out.at_).mono ?_
            rintro e w7 ⟨R', E', hr, pv, nv, rfl, m1, m2⟩
            obtain ⟨rfl, rfl⟩ := HRS.out _ _ hr
            clear hr
            obtain ⟨a7, q7, rfl⟩ := m1.slice
            obtain ⟨b7, r7, rfl⟩ := m2.slice
            unfold histV
            dsimp only
            have hs := m1.kept.alloc (.cells #[.int .i64 RS.sc, .int .u64 (RS.ze : Int), .int .i64 RS.po, .slice a7 (uvals RS.pl).length q7, .int .i64 RS.no, .slice b7 (uvals RS.nl).length r7] 27)
            have hv := HV.mk' m1 m2
            obtain ⟨ws7, hws⟩ : ∃ w', w' = w7.alloc (.cells #[.int .i64 RS.sc, .int .u64 (RS.ze : Int), .int .i64 RS.po, .slice a7 (uvals RS.pl).length q7, .int .i64 RS.no, .slice b7 (uvals RS.nl).length r7] 27) := ⟨_, rfl⟩
            rw [← hws] at hs hv
            have HS7 := Lib.hid hs
            have HV7 := Lib.hid hv
            have HWS7 := Lib.hid hws
            clear hs hv hws m1 m2
            have HK7 := Lib.hid (HK6.out.trans HS7.out)
            have HVA := Lib.hid (HVA.out.on HS7.out)
            have HVB := Lib.hid (HVB.out.on HS7.out)
            have HV4 := Lib.hid (HV4.out.on HS7.out)
            have HV5 := Lib.hid (HV5.out.on HS7.out)
            have HV6 := Lib.hid (HV6.out.on HS7.out)
            clear hva0 hva1 hva2 hva3 hva4 hva5 hvb0 hvb1 hvb2 hvb3 hvb4 hvb5
            go_upto_region 9 with fail
            rw [← HWS7.out]
            have HD0 := Lib.hid ((Kept.refl (fun _ => False) ws7).drew)
            have HV4x := Lib.hid (HV4.out.on HD0.out)
            have HV5x := Lib.hid (HV5.out.on HD0.out)
            have HV6x := Lib.hid (HV6.out.on HD0.out)
            have HV7x := Lib.hid (HV7.out.on HD0.out)
            have HVAx := Lib.hid (HVA.out.on HD0.out)
            have HKx := Lib.hid (HK7.out.trans HD0.out)
            have HSS0 : Hid ((fun w' => (w'.cell? ⟨w4.heap.size, 0, none⟩ = some (.int .i64 RM.sc) ∧ w'.cell? ⟨w4.heap.size, 1, none⟩ = some (.int .u64 (RM.ze : Int)) ∧ w'.cell? ⟨w4.heap.size, 2, none⟩ = some (.int .i64 RM.po) ∧ w'.cell? ⟨w4.heap.size, 3, none⟩ = some (.slice a4 (uvals RM.pl).length q4) ∧ w'.cell? ⟨w4.heap.size, 4, none⟩ = some (.int .i64 RM.no) ∧ w'.cell? ⟨w4.heap.size, 5, none⟩ = some (.slice b4 (uvals RM.nl).length r4)) ∧ (w'.cell? ⟨w5.heap.size, 0, none⟩ = some (.int .i64 RM.sc) ∧ w'.cell? ⟨w5.heap.size, 1, none⟩ = some (.int .u64 (RM.ze : Int)) ∧ w'.cell? ⟨w5.heap.size, 2, none⟩ = some (.int .i64 RM.po) ∧ w'.cell? ⟨w5.heap.size, 3, none⟩ = some (.slice a5 (uvals RM.pl).length q5) ∧ w'.cell? ⟨w5.heap.size, 4, none⟩ = some (.int .i64 RM.no) ∧ w'.cell? ⟨w5.heap.size, 5, none⟩ = some (.slice b5 (uvals RM.nl).length r5)) ∧ (w'.cell? ⟨w6.heap.size, 0, none⟩ = some (.int .i64 RS.sc) ∧ w'.cell? ⟨w6.heap.size, 1, none⟩ = some (.int .u64 (RS.ze : Int)) ∧ w'.cell? ⟨w6.heap.size, 2, none⟩ = some (.int .i64 RS.po) ∧ w'.cell? ⟨w6.heap.size, 3, none⟩ = some (.slice a6 (uvals RS.pl).length q6) ∧ w'.cell? ⟨w6.heap.size, 4, none⟩ = some (.int .i64 RS.no) ∧ w'.cell? ⟨w6.heap.size, 5, none⟩ = some (.slice b6 (uvals RS.nl).length r6)) ∧ (w'.cell? ⟨w7.heap.size, 0, none⟩ = some (.int .i64 RS.sc) ∧ w'.cell? ⟨w7.heap.size, 1, none⟩ = some (.int .u64 (RS.ze : Int)) ∧ w'.cell? ⟨w7.heap.size, 2, none⟩ = some (.int .i64 RS.po) ∧ w'.cell? ⟨w7.heap.size, 3, none⟩ = some (.slice a7 (uvals RS.pl).length q7) ∧ w'.cell? ⟨w7.heap.size, 4, none⟩ = some (.int .i64 RS.no) ∧ w'.cell? ⟨w7.heap.size, 5, none⟩ = some (.slice b7 (uvals RS.nl).length r7)) ∧ (w'.cell? ⟨W.heap.size, 0, none⟩ = some (.int .i64 asc) ∧ w'.cell? ⟨W.heap.size, 1, none⟩ = some (.int .u64 (aze : Int)) ∧ w'.cell? ⟨W.heap.size, 2, none⟩ = some (.int .i64 apo) ∧ w'.cell? ⟨W.heap.size, 3, none⟩ = some (.slice ao apl.length c) ∧ w'.cell? ⟨W.heap.size, 4, none⟩ = some (.int .i64 ano) ∧ w'.cell? ⟨W.heap.size, 5, none⟩ = some (.slice a1 anl.length c1))) ws7.drew) := Lib.hid ⟨HV4x.out.box.c, HV5x.out.box.c, HV6x.out.box.c, HV7x.out.box.c, HVAx.out.box.c⟩
            skip
            refine AnyBut.start (S := fun w' => (w'.cell? ⟨w4.heap.size, 0, none⟩ = some (.int .i64 RM.sc) ∧ w'.cell? ⟨w4.heap.size, 1, none⟩ = some (.int .u64 (RM.ze : Int)) ∧ w'.cell? ⟨w4.heap.size, 2, none⟩ = some (.int .i64 RM.po) ∧ w'.cell? ⟨w4.heap.size, 3, none⟩ = some (.slice a4 (uvals RM.pl).length q4) ∧ w'.cell? ⟨w4.heap.size, 4, none⟩ = some (.int .i64 RM.no) ∧ w'.cell? ⟨w4.heap.size, 5, none⟩ = some (.slice b4 (uvals RM.nl).length r4)) ∧ (w'.cell? ⟨w5.heap.size, 0, none⟩ = some (.int .i64 RM.sc) ∧ w'.cell? ⟨w5.heap.size, 1, none⟩ = some (.int .u64 (RM.ze : Int)) ∧ w'.cell? ⟨w5.heap.size, 2, none⟩ = some (.int .i64 RM.po) ∧ w'.cell? ⟨w5.heap.size, 3, none⟩ = some (.slice a5 (uvals RM.pl).length q5) ∧ w'.cell? ⟨w5.heap.size, 4, none⟩ = some (.int .i64 RM.no) ∧ w'.cell? ⟨w5.heap.size, 5, none⟩ = some (.slice b5 (uvals RM.nl).length r5)) ∧ (w'.cell? ⟨w6.heap.size, 0, none⟩ = some (.int .i64 RS.sc) ∧ w'.cell? ⟨w6.heap.size, 1, none⟩ = some (.int .u64 (RS.ze : Int)) ∧ w'.cell? ⟨w6.heap.size, 2, none⟩ = some (.int .i64 RS.po) ∧ w'.cell? ⟨w6.heap.size, 3, none⟩ = some (.slice a6 (uvals RS.pl).length q6) ∧ w'.cell? ⟨w6.heap.size, 4, none⟩ = some (.int .i64 RS.no) ∧ w'.cell? ⟨w6.heap.size, 5, none⟩ = some (.slice b6 (uvals RS.nl).length r6)) ∧ (w'.cell? ⟨w7.heap.size, 0, none⟩ = some (.int .i64 RS.sc) ∧ w'.cell? ⟨w7.heap.size, 1, none⟩ = some (.int .u64 (RS.ze : Int)) ∧ w'.cell? ⟨w7.heap.size, 2, none⟩ = some (.int .i64 RS.po) ∧ w'.cell? ⟨w7.heap.size, 3, none⟩ = some (.slice a7 (uvals RS.pl).length q7) ∧ w'.cell? ⟨w7.heap.size, 4, none⟩ = some (.int .i64 RS.no) ∧ w'.cell? ⟨w7.heap.size, 5, none⟩ = some (.slice b7 (uvals RS.nl).length r7)) ∧ (w'.cell? ⟨W.heap.size, 0, none⟩ = some (.int .i64 asc) ∧ w'.cell? ⟨W.heap.size, 1, none⟩ = some (.int .u64 (aze : Int)) ∧ w'.cell? ⟨W.heap.size, 2, none⟩ = some (.int .i64 apo) ∧ w'.cell? ⟨W.heap.size, 3, none⟩ = some (.slice ao apl.length c) ∧ w'.cell? ⟨W.heap.size, 4, none⟩ = some (.int .i64 ano) ∧ w'.cell? ⟨W.heap.size, 5, none⟩ = some (.slice a1 anl.length c1))) (k := 41) (by kernel_rfl) ?_
            refine AnyBut.takeS (i := 0) (v := ?v39) rfl (by kernel_rfl) (Nat.le_of_eq (by kernel_rfl)) (by kernel_rfl) (by kernel_rfl) (fun _ _ _ h => h) (HSS0.out) (Or.inl ⟨by kernel_rfl, ?hy39⟩) ?r39
            case hy39 =>
              intro w hSw
              try dsimp only at hSw
              go_simp
              try with_reducible rfl
            try simp only [Act.put, List.getElem_toArray, List.getElem_cons_zero, List.setIfInBounds_toArray, List.set_cons_zero, List.set_cons_succ]
            refine AnyBut.takeS (i := 1) (v := ?v40) rfl (by kernel_rfl) (Nat.le_of_eq (by kernel_rfl)) (by kernel_rfl) (by kernel_rfl) (fun _ _ _ h => h) (HSS0.out) (Or.inl ⟨by kernel_rfl, ?hy40⟩) ?r40
            case hy40 =>
              intro w hSw
              try dsimp only at hSw
              go_simp
              try with_reducible rfl
            try simp only [Act.put, List.getElem_toArray, List.getElem_cons_succ, List.getElem_cons_zero, List.setIfInBounds_toArray, List.set_cons_zero, List.set_cons_succ]
            refine AnyBut.one (i := 2) (by kernel_rfl) rfl (fun K hK => ?_)
            go_simp
            go_wp2_with fail
            refine (HSM.out _ _ _ _ _ HV4x.out.at_ HV5x.out.at_).mono ?_
            rintro e w8 ⟨rfl, k8⟩
            have HS8 := Lib.hid k8
            clear k8
            have HKy := Lib.hid (HKx.out.trans HS8.out)
            have HV4y := Lib.hid (HV4x.out.on HS8.out)
            have HV5y := Lib.hid (HV5x.out.on HS8.out)
            have HV6y := Lib.hid (HV6x.out.on HS8.out)
            have HV7y := Lib.hid (HV7x.out.on HS8.out)
            have HVAy := Lib.hid (HVAx.out.on HS8.out)
            have HSS8 : Hid ((fun w' => (w'.cell? ⟨w4.heap.size, 0, none⟩ = some (.int .i64 RM.sc) ∧ w'.cell? ⟨w4.heap.size, 1, none⟩ = some (.int .u64 (RM.ze : Int)) ∧ w'.cell? ⟨w4.heap.size, 2, none⟩ = some (.int .i64 RM.po) ∧ w'.cell? ⟨w4.heap.size, 3, none⟩ = some (.slice a4 (uvals RM.pl).length q4) ∧ w'.cell? ⟨w4.heap.size, 4, none⟩ = some (.int .i64 RM.no) ∧ w'.cell? ⟨w4.heap.size, 5, none⟩ = some (.slice b4 (uvals RM.nl).length r4)) ∧ (w'.cell? ⟨w5.heap.size, 0, none⟩ = some (.int .i64 RM.sc) ∧ w'.cell? ⟨w5.heap.size, 1, none⟩ = some (.int .u64 (RM.ze : Int)) ∧ w'.cell? ⟨w5.heap.size, 2, none⟩ = some (.int .i64 RM.po) ∧ w'.cell? ⟨w5.heap.size, 3, none⟩ = some (.slice a5 (uvals RM.pl).length q5) ∧ w'.cell? ⟨w5.heap.size, 4, none⟩ = some (.int .i64 RM.no) ∧ w'.cell? ⟨w5.heap.size, 5, none⟩ = some (.slice b5 (uvals RM.nl).length r5)) ∧ (w'.cell? ⟨w6.heap.size, 0, none⟩ = some (.int .i64 RS.sc) ∧ w'.cell? ⟨w6.heap.size, 1, none⟩ = some (.int .u64 (RS.ze : Int)) ∧ w'.cell? ⟨w6.heap.size, 2, none⟩ = some (.int .i64 RS.po) ∧ w'.cell? ⟨w6.heap.size, 3, none⟩ = some (.slice a6 (uvals RS.pl).length q6) ∧ w'.cell? ⟨w6.heap.size, 4, none⟩ = some (.int .i64 RS.no) ∧ w'.cell? ⟨w6.heap.size, 5, none⟩ = some (.slice b6 (uvals RS.nl).length r6)) ∧ (w'.cell? ⟨w7.heap.size, 0, none⟩ = some (.int .i64 RS.sc) ∧ w'.cell? ⟨w7.heap.size, 1, none⟩ = some (.int .u64 (RS.ze : Int)) ∧ w'.cell? ⟨w7.heap.size, 2, none⟩ = some (.int .i64 RS.po) ∧ w'.cell? ⟨w7.heap.size, 3, none⟩ = some (.slice a7 (uvals RS.pl).length q7) ∧ w'.cell? ⟨w7.heap.size, 4, none⟩ = some (.int .i64 RS.no) ∧ w'.cell? ⟨w7.heap.size, 5, none⟩ = some (.slice b7 (uvals RS.nl).length r7)) ∧ (w'.cell? ⟨W.heap.size, 0, none⟩ = some (.int .i64 asc) ∧ w'.cell? ⟨W.heap.size, 1, none⟩ = some (.int .u64 (aze : Int)) ∧ w'.cell? ⟨W.heap.size, 2, none⟩ = some (.int .i64 apo) ∧ w'.cell? ⟨W.heap.size, 3, none⟩ = some (.slice ao apl.length c) ∧ w'.cell? ⟨W.heap.size, 4, none⟩ = some (.int .i64 ano) ∧ w'.cell? ⟨W.heap.size, 5, none⟩ = some (.slice a1 anl.length c1))) w8) := Lib.hid ⟨HV4y.out.box.c, HV5y.out.box.c, HV6y.out.box.c, HV7y.out.box.c, HVAy.out.box.c⟩
            go_wp2
            refine hK.out _ _ (HSS8.out) ?_
            clear hK K
            try simp only [Act.put, List.getElem_toArray, List.getElem_cons_succ, List.getElem_cons_zero, List.setIfInBounds_toArray, List.set_cons_zero, List.set_cons_succ]
            refine AnyBut.takeS (i := 3) (v := ?v41) rfl (by kernel_rfl) (Nat.le_of_eq (by kernel_rfl)) (by kernel_rfl) (by kernel_rfl) (fun _ _ _ h => h) (HSS8.out) (Or.inl ⟨by kernel_rfl, ?hy41⟩) ?r41
            case hy41 =>
              intro w hSw
              try dsimp only at hSw
              go_simp
              try with_reducible rfl
            try simp only [Act.put, List.getElem_toArray, List.getElem_cons_succ, List.getElem_cons_zero, List.setIfInBounds_toArray, List.set_cons_zero, List.set_cons_succ]
            refine AnyBut.takeS (i := 4) (v := ?v42) rfl (by kernel_rfl) (Nat.le_of_eq (by kernel_rfl)) (by kernel_rfl) (by kernel_rfl) (fun _ _ _ h => h) (HSS8.out) (Or.inl ⟨by kernel_rfl, ?hy42⟩) ?r42
            case hy42 =>
              intro w hSw
              try dsimp only at hSw
              go_simp
              try with_reducible rfl
            try simp only [Act.put, List.getElem_toArray, List.getElem_cons_succ, List.getElem_cons_zero, List.setIfInBounds_toArray, List.set_cons_zero, List.set_cons_succ]
            refine AnyBut.takeS (i := 5) (v := ?v43) rfl (by kernel_rfl) (Nat.le_of_eq (by kernel_rfl)) (by kernel_rfl) (by kernel_rfl) (fun _ _ _ h => h) (HSS8.out) (Or.inl ⟨by kernel_rfl, ?hy43⟩) ?r43
            case hy43 =>
              intro w hSw
              try dsimp only at hSw
              go_simp
              try with_reducible rfl
            try simp only [Act.put, List.getElem_toArray, List.getElem_cons_succ, List.getElem_cons_zero, List.setIfInBounds_toArray, List.set_cons_zero, List.set_cons_succ]
            refine AnyBut.takeS (i := 6) (v := ?v44) rfl (by kernel_rfl) (Nat.le_of_eq (by kernel_rfl)) (by kernel_rfl) (by kernel_rfl) (fun _ _ _ h => h) (HSS8.out) (Or.inl ⟨by kernel_rfl, ?hy44⟩) ?r44
            case hy44 =>
              intro w hSw
              try dsimp only at hSw
              go_simp
              try with_reducible rfl
            try simp only [Act.put, List.getElem_toArray, List.getElem_cons_succ, List.getElem_cons_zero, List.setIfInBounds_toArray, List.set_cons_zero, List.set_cons_succ]
            refine AnyBut.takeS (i := 7) (v := ?v45) rfl (by kernel_rfl) (Nat.le_of_eq (by kernel_rfl)) (by kernel_rfl) (by kernel_rfl) (fun _ _ _ h => h) (HSS8.out) (Or.inl ⟨by kernel_rfl, ?hy45⟩) ?r45
            case hy45 =>
              intro w hSw
              try dsimp only at hSw
              go_simp
              try with_reducible rfl
            try simp only [Act.put, List.getElem_toArray, List.getElem_cons_succ, List.getElem_cons_zero, List.setIfInBounds_toArray, List.set_cons_zero, List.set_cons_succ]
            refine AnyBut.takeS (i := 8) (v := ?v46) rfl (by kernel_rfl) (Nat.le_of_eq (by kernel_rfl)) (by kernel_rfl) (by kernel_rfl) (fun _ _ _ h => h) (HSS8.out) (Or.inl ⟨by kernel_rfl, ?hy46⟩) ?r46
            case hy46 =>
              intro w hSw
              try dsimp only at hSw
              go_simp
              try with_reducible rfl
            try simp only [Act.put, List.getElem_toArray, List.getElem_cons_succ, List.getElem_cons_zero, List.setIfInBounds_toArray, List.set_cons_zero, List.set_cons_succ]
            refine AnyBut.takeS (i := 9) (v := ?v47) rfl (by kernel_rfl) (Nat.le_of_eq (by kernel_rfl)) (by kernel_rfl) (by kernel_rfl) (fun _ _ _ h => h) (HSS8.out) (Or.inl ⟨by kernel_rfl, ?hy47⟩) ?r47
            case hy47 =>
              intro w hSw
              try dsimp only at hSw
              go_simp
              try with_reducible rfl
            try simp only [Act.put, List.getElem_toArray, List.getElem_cons_succ, List.getElem_cons_zero, List.setIfInBounds_toArray, List.set_cons_zero, List.set_cons_succ]
            refine AnyBut.takeS (i := 10) (v := ?v48) rfl (by kernel_rfl) (Nat.le_of_eq (by kernel_rfl)) (by kernel_rfl) (by kernel_rfl) (fun _ _ _ h => h) (HSS8.out) (Or.inl ⟨by kernel_rfl, ?hy48⟩) ?r48
            case hy48 =>
              intro w hSw
              try dsimp only at hSw
              go_simp
              try with_reducible rfl
            try simp only [Act.put, List.getElem_toArray, List.getElem_cons_succ, List.getElem_cons_zero, List.setIfInBounds_toArray, List.set_cons_zero, List.set_cons_succ]
            refine AnyBut.one (i := 11) (by kernel_rfl) rfl (fun K hK => ?_)
            go_simp
            go_wp2_with fail
            refine (HSS.out _ _ _ _ _ HV6y.out.at_ HV7y.out.at_).mono ?_
            rintro e w9 ⟨rfl, k9⟩
            have HS9 := Lib.hid k9
            clear k9
            have HKz := Lib.hid (HKy.out.trans HS9.out)
            have HV4z := Lib.hid (HV4y.out.on HS9.out)
            have HV5z := Lib.hid (HV5y.out.on HS9.out)
            have HV6z := Lib.hid (HV6y.out.on HS9.out)
            have HV7z := Lib.hid (HV7y.out.on HS9.out)
            have HVAz := Lib.hid (HVAy.out.on HS9.out)
            have HSS9 : Hid ((fun w' => (w'.cell? ⟨w4.heap.size, 0, none⟩ = some (.int .i64 RM.sc) ∧ w'.cell? ⟨w4.heap.size, 1, none⟩ = some (.int .u64 (RM.ze : Int)) ∧ w'.cell? ⟨w4.heap.size, 2, none⟩ = some (.int .i64 RM.po) ∧ w'.cell? ⟨w4.heap.size, 3, none⟩ = some (.slice a4 (uvals RM.pl).length q4) ∧ w'.cell? ⟨w4.heap.size, 4, none⟩ = some (.int .i64 RM.no) ∧ w'.cell? ⟨w4.heap.size, 5, none⟩ = some (.slice b4 (uvals RM.nl).length r4)) ∧ (w'.cell? ⟨w5.heap.size, 0, none⟩ = some (.int .i64 RM.sc) ∧ w'.cell? ⟨w5.heap.size, 1, none⟩ = some (.int .u64 (RM.ze : Int)) ∧ w'.cell? ⟨w5.heap.size, 2, none⟩ = some (.int .i64 RM.po) ∧ w'.cell? ⟨w5.heap.size, 3, none⟩ = some (.slice a5 (uvals RM.pl).length q5) ∧ w'.cell? ⟨w5.heap.size, 4, none⟩ = some (.int .i64 RM.no) ∧ w'.cell? ⟨w5.heap.size, 5, none⟩ = some (.slice b5 (uvals RM.nl).length r5)) ∧ (w'.cell? ⟨w6.heap.size, 0, none⟩ = some (.int .i64 RS.sc) ∧ w'.cell? ⟨w6.heap.size, 1, none⟩ = some (.int .u64 (RS.ze : Int)) ∧ w'.cell? ⟨w6.heap.size, 2, none⟩ = some (.int .i64 RS.po) ∧ w'.cell? ⟨w6.heap.size, 3, none⟩ = some (.slice a6 (uvals RS.pl).length q6) ∧ w'.cell? ⟨w6.heap.size, 4, none⟩ = some (.int .i64 RS.no) ∧ w'.cell? ⟨w6.heap.size, 5, none⟩ = some (.slice b6 (uvals RS.nl).length r6)) ∧ (w'.cell? ⟨w7.heap.size, 0, none⟩ = some (.int .i64 RS.sc) ∧ w'.cell? ⟨w7.heap.size, 1, none⟩ = some (.int .u64 (RS.ze : Int)) ∧ w'.cell? ⟨w7.heap.size, 2, none⟩ = some (.int .i64 RS.po) ∧ w'.cell? ⟨w7.heap.size, 3, none⟩ = some (.slice a7 (uvals RS.pl).length q7) ∧ w'.cell? ⟨w7.heap.size, 4, none⟩ = some (.int .i64 RS.no) ∧ w'.cell? ⟨w7.heap.size, 5, none⟩ = some (.slice b7 (uvals RS.nl).length r7)) ∧ (w'.cell? ⟨W.heap.size, 0, none⟩ = some (.int .i64 asc) ∧ w'.cell? ⟨W.heap.size, 1, none⟩ = some (.int .u64 (aze : Int)) ∧ w'.cell? ⟨W.heap.size, 2, none⟩ = some (.int .i64 apo) ∧ w'.cell? ⟨W.heap.size, 3, none⟩ = some (.slice ao apl.length c) ∧ w'.cell? ⟨W.heap.size, 4, none⟩ = some (.int .i64 ano) ∧ w'.cell? ⟨W.heap.size, 5, none⟩ = some (.slice a1 anl.length c1))) w9) := Lib.hid ⟨HV4z.out.box.c, HV5z.out.box.c, HV6z.out.box.c, HV7z.out.box.c, HVAz.out.box.c⟩
            go_wp2
            refine hK.out _ _ (HSS9.out) ?_
            clear hK K
            try simp only [Act.put, List.getElem_toArray, List.getElem_cons_succ, List.getElem_cons_zero, List.setIfInBounds_toArray, List.set_cons_zero, List.set_cons_succ]
            refine AnyBut.takeS (i := 12) (v := ?v49) rfl (by kernel_rfl) (Nat.le_of_eq (by kernel_rfl)) (by kernel_rfl) (by kernel_rfl) (fun _ _ _ h => h) (HSS9.out) (Or.inl ⟨by kernel_rfl, ?hy49⟩) ?r49
            case hy49 =>
              intro w hSw
              try dsimp only at hSw
              go_simp
              try with_reducible rfl
            try simp only [Act.put, List.getElem_toArray, List.getElem_cons_succ, List.getElem_cons_zero, List.setIfInBounds_toArray, List.set_cons_zero, List.set_cons_succ]
            refine AnyBut.takeS (i := 13) (v := ?v50) rfl (by kernel_rfl) (Nat.le_of_eq (by kernel_rfl)) (by kernel_rfl) (by kernel_rfl) (fun _ _ _ h => h) (HSS9.out) (Or.inl ⟨by kernel_rfl, ?hy50⟩) ?r50
            case hy50 =>
              intro w hSw
              try dsimp only at hSw
              go_simp
              try with_reducible rfl
            try simp only [Act.put, List.getElem_toArray, List.getElem_cons_succ, List.getElem_cons_zero, List.setIfInBounds_toArray, List.set_cons_zero, List.set_cons_succ]
            refine AnyBut.takeS (i := 14) (v := ?v51) rfl (by kernel_rfl) (Nat.le_of_eq (by kernel_rfl)) (by kernel_rfl) (by kernel_rfl) (fun _ _ _ h => h) (HSS9.out) (Or.inl ⟨by kernel_rfl, ?hy51⟩) ?r51
            case hy51 =>
              intro w hSw
              try dsimp only at hSw
              go_simp
              try with_reducible rfl
            try simp only [Act.put, List.getElem_toArray, List.getElem_cons_succ, List.getElem_cons_zero, List.setIfInBounds_toArray, List.set_cons_zero, List.set_cons_succ]
            refine AnyBut.takeS (i := 15) (v := ?v52) rfl (by kernel_rfl) (Nat.le_of_eq (by kernel_rfl)) (by kernel_rfl) (by kernel_rfl) (fun _ _ _ h => h) (HSS9.out) (Or.inl ⟨by kernel_rfl, ?hy52⟩) ?r52
            case hy52 =>
              intro w hSw
              try dsimp only at hSw
              go_simp
              try with_reducible rfl
            try simp only [Act.put, List.getElem_toArray, List.getElem_cons_succ, List.getElem_cons_zero, List.setIfInBounds_toArray, List.set_cons_zero, List.set_cons_succ]
            refine AnyBut.takeS (i := 16) (v := ?v53) rfl (by kernel_rfl) (Nat.le_of_eq (by kernel_rfl)) (by kernel_rfl) (by kernel_rfl) (fun _ _ _ h => h) (HSS9.out) (Or.inl ⟨by kernel_rfl, ?hy53⟩) ?r53
            case hy53 =>
              intro w hSw
              try dsimp only at hSw
              go_simp
              try with_reducible rfl
            try simp only [Act.put, List.getElem_toArray, List.getElem_cons_succ, List.getElem_cons_zero, List.setIfInBounds_toArray, List.set_cons_zero, List.set_cons_succ]
            refine AnyBut.takeS (i := 17) (v := ?v54) rfl (by kernel_rfl) (Nat.le_of_eq (by kernel_rfl)) (by kernel_rfl) (by kernel_rfl) (fun _ _ _ h => h) (HSS9.out) (Or.inl ⟨by kernel_rfl, ?hy54⟩) ?r54
            case hy54 =>
              intro w hSw
              try dsimp only at hSw
              go_simp
              try with_reducible rfl
            try simp only [Act.put, List.getElem_toArray, List.getElem_cons_succ, List.getElem_cons_zero, List.setIfInBounds_toArray, List.set_cons_zero, List.set_cons_succ]
            refine AnyBut.takeS (i := 18) (v := ?v55) rfl (by kernel_rfl) (Nat.le_of_eq (by kernel_rfl)) (by kernel_rfl) (by kernel_rfl) (fun _ _ _ h => h) (HSS9.out) (Or.inl ⟨by kernel_rfl, ?hy55⟩) ?r55
            case hy55 =>
              intro w hSw
              try dsimp only at hSw
              go_simp
              try with_reducible rfl
            try simp only [Act.put, List.getElem_toArray, List.getElem_cons_succ, List.getElem_cons_zero, List.setIfInBounds_toArray, List.set_cons_zero, List.set_cons_succ]
            refine AnyBut.takeS (i := 19) (v := ?v56) rfl (by kernel_rfl) (Nat.le_of_eq (by kernel_rfl)) (by kernel_rfl) (by kernel_rfl) (fun _ _ _ h => h) (HSS9.out) (Or.inl ⟨by kernel_rfl, ?hy56⟩) ?r56
            case hy56 =>
              intro w hSw
              try dsimp only at hSw
              go_simp
              try with_reducible rfl
            try simp only [Act.put, List.getElem_toArray, List.getElem_cons_succ, List.getElem_cons_zero, List.setIfInBounds_toArray, List.set_cons_zero, List.set_cons_succ]
            refine AnyBut.takeS (i := 21) (v := ?v57) rfl (by kernel_rfl) (Nat.le_of_eq (by kernel_rfl)) (by kernel_rfl) (by kernel_rfl) (fun _ _ _ h => h) (HSS9.out) (Or.inl ⟨by kernel_rfl, ?hy57⟩) ?r57
            case hy57 =>
              intro w hSw
              try dsimp only at hSw
              go_simp
              try with_reducible rfl
            try simp only [Act.put, List.getElem_toArray, List.getElem_cons_succ, List.getElem_cons_zero, List.setIfInBounds_toArray, List.set_cons_zero, List.set_cons_succ]
            refine AnyBut.takeS (i := 22) (v := ?v58) rfl (by kernel_rfl) (Nat.le_of_eq (by kernel_rfl)) (by kernel_rfl) (by kernel_rfl) (fun _ _ _ h => h) (HSS9.out) (Or.inl ⟨by kernel_rfl, ?hy58⟩) ?r58
            case hy58 =>
              intro w hSw
              try dsimp only at hSw
              go_simp
              try with_reducible rfl
            try simp only [Act.put, List.getElem_toArray, List.getElem_cons_succ, List.getElem_cons_zero, List.setIfInBounds_toArray, List.set_cons_zero, List.set_cons_succ]
            refine AnyBut.takeS (i := 23) (v := ?v59) rfl (by kernel_rfl) (Nat.le_of_eq (by kernel_rfl)) (by kernel_rfl) (by kernel_rfl) (fun _ _ _ h => h) (HSS9.out) (Or.inl ⟨by kernel_rfl, ?hy59⟩) ?r59
            case hy59 =>
              intro w hSw
              try dsimp only at hSw
              go_simp
              try with_reducible rfl
            try simp only [Act.put, List.getElem_toArray, List.getElem_cons_succ, List.getElem_cons_zero, List.setIfInBounds_toArray, List.set_cons_zero, List.set_cons_succ]
            refine AnyBut.one (i := 20) (by kernel_rfl) rfl (fun K hK => ?_)
            go_simp
            go_wp2_with fail
            refine (HEM.out _ HVAz.out.at_).mono ?_
            rintro e w10 ⟨rfl, k10⟩
            have HS10 := Lib.hid k10
            clear k10
            have HKu := Lib.hid (HKz.out.trans HS10.out)
            have HV4u := Lib.hid (HV4z.out.on HS10.out)
            have HV5u := Lib.hid (HV5z.out.on HS10.out)
            have HV6u := Lib.hid (HV6z.out.on HS10.out)
            have HV7u := Lib.hid (HV7z.out.on HS10.out)
            have HVAu := Lib.hid (HVAz.out.on HS10.out)
            have HSS10 : Hid ((fun w' => (w'.cell? ⟨w4.heap.size, 0, none⟩ = some (.int .i64 RM.sc) ∧ w'.cell? ⟨w4.heap.size, 1, none⟩ = some (.int .u64 (RM.ze : Int)) ∧ w'.cell? ⟨w4.heap.size, 2, none⟩ = some (.int .i64 RM.po) ∧ w'.cell? ⟨w4.heap.size, 3, none⟩ = some (.slice a4 (uvals RM.pl).length q4) ∧ w'.cell? ⟨w4.heap.size, 4, none⟩ = some (.int .i64 RM.no) ∧ w'.cell? ⟨w4.heap.size, 5, none⟩ = some (.slice b4 (uvals RM.nl).length r4)) ∧ (w'.cell? ⟨w5.heap.size, 0, none⟩ = some (.int .i64 RM.sc) ∧ w'.cell? ⟨w5.heap.size, 1, none⟩ = some (.int .u64 (RM.ze : Int)) ∧ w'.cell? ⟨w5.heap.size, 2, none⟩ = some (.int .i64 RM.po) ∧ w'.cell? ⟨w5.heap.size, 3, none⟩ = some (.slice a5 (uvals RM.pl).length q5) ∧ w'.cell? ⟨w5.heap.size, 4, none⟩ = some (.int .i64 RM.no) ∧ w'.cell? ⟨w5.heap.size, 5, none⟩ = some (.slice b5 (uvals RM.nl).length r5)) ∧ (w'.cell? ⟨w6.heap.size, 0, none⟩ = some (.int .i64 RS.sc) ∧ w'.cell? ⟨w6.heap.size, 1, none⟩ = some (.int .u64 (RS.ze : Int)) ∧ w'.cell? ⟨w6.heap.size, 2, none⟩ = some (.int .i64 RS.po) ∧ w'.cell? ⟨w6.heap.size, 3, none⟩ = some (.slice a6 (uvals RS.pl).length q6) ∧ w'.cell? ⟨w6.heap.size, 4, none⟩ = some (.int .i64 RS.no) ∧ w'.cell? ⟨w6.heap.size, 5, none⟩ = some (.slice b6 (uvals RS.nl).length r6)) ∧ (w'.cell? ⟨w7.heap.size, 0, none⟩ = some (.int .i64 RS.sc) ∧ w'.cell? ⟨w7.heap.size, 1, none⟩ = some (.int .u64 (RS.ze : Int)) ∧ w'.cell? ⟨w7.heap.size, 2, none⟩ = some (.int .i64 RS.po) ∧ w'.cell? ⟨w7.heap.size, 3, none⟩ = some (.slice a7 (uvals RS.pl).length q7) ∧ w'.cell? ⟨w7.heap.size, 4, none⟩ = some (.int .i64 RS.no) ∧ w'.cell? ⟨w7.heap.size, 5, none⟩ = some (.slice b7 (uvals RS.nl).length r7)) ∧ (w'.cell? ⟨W.heap.size, 0, none⟩ = some (.int .i64 asc) ∧ w'.cell? ⟨W.heap.size, 1, none⟩ = some (.int .u64 (aze : Int)) ∧ w'.cell? ⟨W.heap.size, 2, none⟩ = some (.int .i64 apo) ∧ w'.cell? ⟨W.heap.size, 3, none⟩ = some (.slice ao apl.length c) ∧ w'.cell? ⟨W.heap.size, 4, none⟩ = some (.int .i64 ano) ∧ w'.cell? ⟨W.heap.size, 5, none⟩ = some (.slice a1 anl.length c1))) w10) := Lib.hid ⟨HV4u.out.box.c, HV5u.out.box.c, HV6u.out.box.c, HV7u.out.box.c, HVAu.out.box.c⟩
            go_wp2
            refine hK.out _ _ (HSS10.out) ?_
            clear hK K
            try simp only [Act.put, List.getElem_toArray, List.getElem_cons_succ, List.getElem_cons_zero, List.setIfInBounds_toArray, List.set_cons_zero, List.set_cons_succ]
            refine AnyBut.takeS (i := 24) (v := ?v60) rfl (by kernel_rfl) (Nat.le_of_eq (by kernel_rfl)) (by kernel_rfl) (by kernel_rfl) (fun _ _ _ h => h) (HSS10.out) (Or.inl ⟨by kernel_rfl, ?hy60⟩) ?r60
            case hy60 =>
              intro w hSw
              try dsimp only at hSw
              go_simp
              try with_reducible rfl
            try simp only [Act.put, List.getElem_toArray, List.getElem_cons_succ, List.getElem_cons_zero, List.setIfInBounds_toArray, List.set_cons_zero, List.set_cons_succ]
            refine AnyBut.takeS (i := 25) (v := ?v61) rfl (by kernel_rfl) (Nat.le_of_eq (by kernel_rfl)) (by kernel_rfl) (by kernel_rfl) (fun _ _ _ h => h) (HSS10.out) (Or.inl ⟨by kernel_rfl, ?hy61⟩) ?r61
            case hy61 =>
              intro w hSw
              try dsimp only at hSw
              go_simp
              try with_reducible rfl
            try simp only [Act.put, List.getElem_toArray, List.getElem_cons_succ, List.getElem_cons_zero, List.setIfInBounds_toArray, List.set_cons_zero, List.set_cons_succ]
            refine AnyBut.takeS (i := 26) (v := ?v62) rfl (by kernel_rfl) (Nat.le_of_eq (by kernel_rfl)) (by kernel_rfl) (by kernel_rfl) (fun _ _ _ h => h) (HSS10.out) (Or.inl ⟨by kernel_rfl, ?hy62⟩) ?r62
            case hy62 =>
              intro w hSw
              try dsimp only at hSw
              go_simp
              try with_reducible rfl
            try simp only [Act.put, List.getElem_toArray, List.getElem_cons_succ, List.getElem_cons_zero, List.setIfInBounds_toArray, List.set_cons_zero, List.set_cons_succ]
            refine AnyBut.takeS (i := 27) (v := ?v63) rfl (by kernel_rfl) (Nat.le_of_eq (by kernel_rfl)) (by kernel_rfl) (by kernel_rfl) (fun _ _ _ h => h) (HSS10.out) (Or.inl ⟨by kernel_rfl, ?hy63⟩) ?r63
            case hy63 =>
              intro w hSw
              try dsimp only at hSw
              go_simp
              try with_reducible rfl
            try simp only [Act.put, List.getElem_toArray, List.getElem_cons_succ, List.getElem_cons_zero, List.setIfInBounds_toArray, List.set_cons_zero, List.set_cons_succ]
            refine AnyBut.takeS (i := 28) (v := ?v64) rfl (by kernel_rfl) (Nat.le_of_eq (by kernel_rfl)) (by kernel_rfl) (by kernel_rfl) (fun _ _ _ h => h) (HSS10.out) (Or.inl ⟨by kernel_rfl, ?hy64⟩) ?r64
            case hy64 =>
              intro w hSw
              try dsimp only at hSw
              go_simp
              try with_reducible rfl
            try simp only [Act.put, List.getElem_toArray, List.getElem_cons_succ, List.getElem_cons_zero, List.setIfInBounds_toArray, List.set_cons_zero, List.set_cons_succ]
            refine AnyBut.takeS (i := 29) (v := ?v65) rfl (by kernel_rfl) (Nat.le_of_eq (by kernel_rfl)) (by kernel_rfl) (by kernel_rfl) (fun _ _ _ h => h) (HSS10.out) (Or.inl ⟨by kernel_rfl, ?hy65⟩) ?r65
            case hy65 =>
              intro w hSw
              try dsimp only at hSw
              go_simp
              try with_reducible rfl
            try simp only [Act.put, List.getElem_toArray, List.getElem_cons_succ, List.getElem_cons_zero, List.setIfInBounds_toArray, List.set_cons_zero, List.set_cons_succ]
            refine AnyBut.takeS (i := 30) (v := ?v66) rfl (by kernel_rfl) (Nat.le_of_eq (by kernel_rfl)) (by kernel_rfl) (by kernel_rfl) (fun _ _ _ h => h) (HSS10.out) (Or.inl ⟨by kernel_rfl, ?hy66⟩) ?r66
            case hy66 =>
              intro w hSw
              try dsimp only at hSw
              go_simp
              try with_reducible rfl
            try simp only [Act.put, List.getElem_toArray, List.getElem_cons_succ, List.getElem_cons_zero, List.setIfInBounds_toArray, List.set_cons_zero, List.set_cons_succ]
            refine AnyBut.takeS (i := 31) (v := ?v67) rfl (by kernel_rfl) (Nat.le_of_eq (by kernel_rfl)) (by kernel_rfl) (by kernel_rfl) (fun _ _ _ h => h) (HSS10.out) (Or.inl ⟨by kernel_rfl, ?hy67⟩) ?r67
            case hy67 =>
              intro w hSw
              try dsimp only at hSw
              go_simp
              try with_reducible rfl
            try simp only [Act.put, List.getElem_toArray, List.getElem_cons_succ, List.getElem_cons_zero, List.setIfInBounds_toArray, List.set_cons_zero, List.set_cons_succ]
            refine AnyBut.takeS (i := 32) (v := ?v68) rfl (by kernel_rfl) (Nat.le_of_eq (by kernel_rfl)) (by kernel_rfl) (by kernel_rfl) (fun _ _ _ h => h) (HSS10.out) (Or.inl ⟨by kernel_rfl, ?hy68⟩) ?r68
            case hy68 =>
              intro w hSw
              try dsimp only at hSw
              go_simp
              try with_reducible rfl
            try simp only [Act.put, List.getElem_toArray, List.getElem_cons_succ, List.getElem_cons_zero, List.setIfInBounds_toArray, List.set_cons_zero, List.set_cons_succ]
            refine AnyBut.takeS (i := 33) (v := ?v69) rfl (by kernel_rfl) (Nat.le_of_eq (by kernel_rfl)) (by kernel_rfl) (by kernel_rfl) (fun _ _ _ h => h) (HSS10.out) (Or.inl ⟨by kernel_rfl, ?hy69⟩) ?r69
            case hy69 =>
              intro w hSw
              try dsimp only at hSw
              go_simp
              try with_reducible rfl
            try simp only [Act.put, List.getElem_toArray, List.getElem_cons_succ, List.getElem_cons_zero, List.setIfInBounds_toArray, List.set_cons_zero, List.set_cons_succ]
            refine AnyBut.takeS (i := 34) (v := ?v70) rfl (by kernel_rfl) (Nat.le_of_eq (by kernel_rfl)) (by kernel_rfl) (by kernel_rfl) (fun _ _ _ h => h) (HSS10.out) (Or.inl ⟨by kernel_rfl, ?hy70⟩) ?r70
            case hy70 =>
              intro w hSw
              try dsimp only at hSw
              go_simp
              try with_reducible rfl
            try simp only [Act.put, List.getElem_toArray, List.getElem_cons_succ, List.getElem_cons_zero, List.setIfInBounds_toArray, List.set_cons_zero, List.set_cons_succ]
            refine AnyBut.takeS (i := 35) (v := ?v71) rfl (by kernel_rfl) (Nat.le_of_eq (by kernel_rfl)) (by kernel_rfl) (by kernel_rfl) (fun _ _ _ h => h) (HSS10.out) (Or.inl ⟨by kernel_rfl, ?hy71⟩) ?r71
            case hy71 =>
              intro w hSw
              try dsimp only at hSw
              go_simp
              try with_reducible rfl
            try simp only [Act.put, List.getElem_toArray, List.getElem_cons_succ, List.getElem_cons_zero, List.setIfInBounds_toArray, List.set_cons_zero, List.set_cons_succ]
            refine AnyBut.takeS (i := 36) (v := ?v72) rfl (by kernel_rfl) (Nat.le_of_eq (by kernel_rfl)) (by kernel_rfl) (by kernel_rfl) (fun _ _ _ h => h) (HSS10.out) (Or.inl ⟨by kernel_rfl, ?hy72⟩) ?r72
            case hy72 =>
              intro w hSw
              try dsimp only at hSw
              go_simp
              try with_reducible rfl
            try simp only [Act.put, List.getElem_toArray, List.getElem_cons_succ, List.getElem_cons_zero, List.setIfInBounds_toArray, List.set_cons_zero, List.set_cons_succ]
            refine AnyBut.takeS (i := 37) (v := ?v73) rfl (by kernel_rfl) (Nat.le_of_eq (by kernel_rfl)) (by kernel_rfl) (by kernel_rfl) (fun _ _ _ h => h) (HSS10.out) (Or.inl ⟨by kernel_rfl, ?hy73⟩) ?r73
            case hy73 =>
              intro w hSw
              try dsimp only at hSw
              go_simp
              try with_reducible rfl
            try simp only [Act.put, List.getElem_toArray, List.getElem_cons_succ, List.getElem_cons_zero, List.setIfInBounds_toArray, List.set_cons_zero, List.set_cons_succ]
            refine AnyBut.takeS (i := 38) (v := ?v74) rfl (by kernel_rfl) (Nat.le_of_eq (by kernel_rfl)) (by kernel_rfl) (by kernel_rfl) (fun _ _ _ h => h) (HSS10.out) (Or.inl ⟨by kernel_rfl, ?hy74⟩) ?r74
            case hy74 =>
              intro w hSw
              try dsimp only at hSw
              go_simp
              try with_reducible rfl
            try simp only [Act.put, List.getElem_toArray, List.getElem_cons_succ, List.getElem_cons_zero, List.setIfInBounds_toArray, List.set_cons_zero, List.set_cons_succ]
            refine AnyBut.takeS (i := 39) (v := ?v75) rfl (by kernel_rfl) (Nat.le_of_eq (by kernel_rfl)) (by kernel_rfl) (by kernel_rfl) (fun _ _ _ h => h) (HSS10.out) (Or.inl ⟨by kernel_rfl, ?hy75⟩) ?r75
            case hy75 =>
              intro w hSw
              try dsimp only at hSw
              go_simp
              try with_reducible rfl
            try simp only [Act.put, List.getElem_toArray, List.getElem_cons_succ, List.getElem_cons_zero, List.setIfInBounds_toArray, List.set_cons_zero, List.set_cons_succ]
            refine AnyBut.takeS (i := 40) (v := ?v76) rfl (by kernel_rfl) (Nat.le_of_eq (by kernel_rfl)) (by kernel_rfl) (by kernel_rfl) (fun _ _ _ h => h) (HSS10.out) (Or.inl ⟨by kernel_rfl, ?hy76⟩) ?r76
            case hy76 =>
              intro w hSw
              try dsimp only at hSw
              go_simp
              try with_reducible rfl
            try simp only [Act.put, List.getElem_toArray, List.getElem_cons_succ, List.getElem_cons_zero, List.setIfInBounds_toArray, List.set_cons_zero, List.set_cons_succ]
            refine AnyBut.done (by kernel_rfl) ?_
            go_wp2
            go_ret
            exact ⟨by kernel_rfl, HKW.out.trans HKu.out⟩
        · have z1 : ((a.pl.length : Int) == 0) = false := beqF (by omega)
          rw [decide_eq_false (by omega)] at HEM
          clear h0 h1
          clear hrs hPS hRM hEM lm ls ha hb hla hlb k0 hw0
          obtain ⟨asc, aze, apo, apl, ano, anl⟩ := a
          obtain ⟨bsc, bze, bpo, bpl, bno, bnl⟩ := b
          unfold histV at HLA HLB HM1 HM2 HU1 HU2 HEM ⊢
          simp only at z0 z1 HLA HLB HM1 HM2 HU1 HU2 HEM HW0 ⊢
          go_enter Try.func9, Try.ntmps9
          go_upto_region 1 with fail
          rw [← HW0.out]
          go_wp2_with fail
          refine HAW.out.mono ?_
          rintro e w1 ⟨rfl, k1⟩
          have HS1 := Lib.hid k1
          have HK1 := Lib.hid k1
          clear k1
          have HVA := Lib.hid (HVA.out.on HS1.out)
          have HVB := Lib.hid (HVB.out.on HS1.out)
          obtain ⟨hva0, hva1, hva2, hva3, hva4, hva5⟩ := HVA.out.box.c
          go_wp2_with fail
          refine (HLA.out _ HVA.out.at_).mono ?_
          rintro e w2 ⟨rfl, k2⟩
          have HS2 := Lib.hid k2
          clear k2
          have HK2 := Lib.hid (HK1.out.trans HS2.out)
          have HVA := Lib.hid (HVA.out.on HS2.out)
          have HVB := Lib.hid (HVB.out.on HS2.out)
          clear hva0 hva1 hva2 hva3 hva4 hva5
          obtain ⟨hvb0, hvb1, hvb2, hvb3, hvb4, hvb5⟩ := HVB.out.box.c
          go_wp2_with fail
          refine (HLB.out _ HVB.out.at_).mono ?_
          rintro e w3 ⟨rfl, k3⟩
          have HS3 := Lib.hid k3
          clear k3
          have HK3 := Lib.hid (HK2.out.trans HS3.out)
          have HVA := Lib.hid (HVA.out.on HS3.out)
          have HVB := Lib.hid (HVB.out.on HS3.out)
          clear hvb0 hvb1 hvb2 hvb3 hvb4 hvb5
          obtain ⟨hva0, hva1, hva2, hva3, hva4, hva5⟩ := HVA.out.box.c
          obtain ⟨hvb0, hvb1, hvb2, hvb3, hvb4, hvb5⟩ := HVB.out.box.c
          go_wp2_with fail
          refine (HM1.out _ HVA.out.at_ HVB.out.at_).mono ?_
          rintro e w4 ⟨pv, nv, rfl, m1, m2⟩
          obtain ⟨a4, q4, rfl⟩ := m1.slice
          obtain ⟨b4, r4, rfl⟩ := m2.slice
          unfold histV
          dsimp only
          have hs := m1.kept.alloc (.cells #[.int .i64 RM.sc, .int .u64 (RM.ze : Int), .int .i64 RM.po, .slice a4 (uvals RM.pl).length q4, .int .i64 RM.no, .slice b4 (uvals RM.nl).length r4] 27)
          have hv := HV.mk' m1 m2
          obtain ⟨ws4, hws⟩ : ∃ w', w' = w4.alloc (.cells #[.int .i64 RM.sc, .int .u64 (RM.ze : Int), .int .i64 RM.po, .slice a4 (uvals RM.pl).length q4, .int .i64 RM.no, .slice b4 (uvals RM.nl).length r4] 27) := ⟨_, rfl⟩
          rw [← hws] at hs hv
          have HS4 := Lib.hid hs
          have HV4 := Lib.hid hv
          have HWS4 := Lib.hid hws
          clear hs hv hws m1 m2
          have HK4 := Lib.hid (HK3.out.trans HS4.out)
          have HVA := Lib.hid (HVA.out.on HS4.out)
          have HVB := Lib.hid (HVB.out.on HS4.out)
          clear hva0 hva1 hva2 hva3 hva4 hva5 hvb0 hvb1 hvb2 hvb3 hvb4 hvb5
          go_upto_region 6 with fail
          rw [← HWS4.out]
          obtain ⟨hva0, hva1, hva2, hva3, hva4, hva5⟩ := HVA.out.box.c
          obtain ⟨hvb0, hvb1, hvb2, hvb3, hvb4, hvb5⟩ := HVB.out.box.c
          go_wp2_with fail
          refine (HM2.out _ HVA.out.at_ HVB.out.at_).mono ?_
          rintro e w5 ⟨pv, nv, rfl, m1, m2⟩
          obtain ⟨a5, q5, rfl⟩ := m1.slice
          obtain ⟨b5, r5, rfl⟩ := m2.slice
          unfold histV
          dsimp only
          have hs := m1.kept.alloc (.cells #[.int .i64 RM.sc, .int .u64 (RM.ze : Int), .int .i64 RM.po, .slice a5 (uvals RM.pl).length q5, .int .i64 RM.no, .slice b5 (uvals RM.nl).length r5] 27)
          have hv := HV.mk' m1 m2
          obtain ⟨ws5, hws⟩ : ∃ w', w' = w5.alloc (.cells #[.int .i64 RM.sc, .int .u64 (RM.ze : Int), .int .i64 RM.po, .slice a5 (uvals RM.pl).length q5, .int .i64 RM.no, .slice b5 (uvals RM.nl).length r5] 27) := ⟨_, rfl⟩
          rw [← hws] at hs hv
          have HS5 := Lib.hid hs
          have HV5 := Lib.hid hv
          have HWS5 := Lib.hid hws
          clear hs hv hws m1 m2
          have HK5 := Lib.hid (HK4.out.trans HS5.out)
          have HVA := Lib.hid (HVA.out.on HS5.out)
          have HVB := Lib.hid (HVB.out.on HS5.out)
          have HV4 := Lib.hid (HV4.out.on HS5.out)
          clear hva0 hva1 hva2 hva3 hva4 hva5 hvb0 hvb1 hvb2 hvb3 hvb4 hvb5
          go_upto_region 7 with fail
          rw [← HWS5.out]
          obtain ⟨hva0, hva1, hva2, hva3, hva4, hva5⟩ := HVA.out.box.c
          obtain ⟨hvb0, hvb1, hvb2, hvb3, hvb4, hvb5⟩ := HVB.out.box.c
          go_wp2_with fail
          refine (HU1.out _ HVA.out.at_ HVB.out.at_).mono ?_
          rintro e w6 ⟨R', E', hr, pv, nv, rfl, m1, m2⟩
          obtain ⟨rfl, rfl⟩ := HRS.out _ _ hr
          clear hr
          obtain ⟨a6, q6, rfl⟩ := m1.slice
          obtain ⟨b6, r6, rfl⟩ := m2.slice
          unfold histV
          dsimp only
          have hs := m1.kept.alloc (.cells #[.int .i64 RS.sc, .int .u64 (RS.ze : Int), .int .i64 RS.po, .slice a6 (uvals RS.pl).length q6, .int .i64 RS.no, .slice b6 (uvals RS.nl).length r6] 27)
          have hv := HV.mk' m1 m2
          obtain ⟨ws6, hws⟩ : ∃ w', w' = w6.alloc (.cells #[.int .i64 RS.sc, .int .u64 (RS.ze : Int), .int .i64 RS.po, .slice a6 (uvals RS.pl).length q6, .int .i64 RS.no, .slice b6 (uvals RS.nl).length r6] 27) := ⟨_, rfl⟩
          rw [← hws] at hs hv
          have HS6 := Lib.hid hs
          have HV6 := Lib.hid hv
          have HWS6 := Lib.hid hws
          clear hs hv hws m1 m2
          have HK6 := Lib.hid (HK5.out.trans HS6.out)
          have HVA := Lib.hid (HVA.out.on HS6.out)
          have HVB := Lib.hid (HVB.out.on HS6.out)
          have HV4 := Lib.hid (HV4.out.on HS6.out)
          have HV5 := Lib.hid (HV5.out.on HS6.out)
          clear hva0 hva1 hva2 hva3 hva4 hva5 hvb0 hvb1 hvb2 hvb3 hvb4 hvb5
          go_upto_region 8 with fail
          rw [← HWS6.out]
          obtain ⟨hva0, hva1, hva2, hva3, hva4, hva5⟩ := HVA.out.box.c
          obtain ⟨hvb0, hvb1, hvb2, hvb3, hvb4, hvb5⟩ := HVB.out.box.c
          go_wp2_with fail
          refine (HU2.out _ HVA.out.at_ HVB.out.at_).mono ?_
          rintro e w7 ⟨R', E', hr, pv, nv, rfl, m1, m2⟩
          obtain ⟨rfl, rfl⟩ := HRS.out _ _ hr
          clear hr
          obtain ⟨a7, q7, rfl⟩ := m1.slice
          obtain ⟨b7, r7, rfl⟩ := m2.slice
          unfold histV
          dsimp only
          have hs := m1.kept.alloc (.cells #[.int .i64 RS.sc, .int .u64 (RS.ze : Int), .int .i64 RS.po, .slice a7 (uvals RS.pl).length q7, .int .i64 RS.no, .slice b7 (uvals RS.nl).length r7] 27)
          have hv := HV.mk' m1 m2
          obtain ⟨ws7, hws⟩ : ∃ w', w' = w7.alloc (.cells #[.int .i64 RS.sc, .int .u64 (RS.ze : Int), .int .i64 RS.po, .slice a7 (uvals RS.pl).length q7, .int .i64 RS.no, .slice b7 (uvals RS.nl).length r7] 27) := ⟨_, rfl⟩
          rw [← hws] at hs hv
          have HS7 := Lib.hid hs
          have HV7 := Lib.hid hv
          have HWS7 := Lib.hid hws
          clear hs hv hws m1 m2
          have HK7 := Lib.hid (HK6.out.trans HS7.out)
          have HVA := Lib.hid (HVA.out.on HS7.out)
          have HVB := Lib.hid (HVB.out.on HS7.out)
          have HV4 := Lib.hid (HV4.out.on HS7.out)
          have HV5 := Lib.hid (HV5.out.on HS7.out)
          have HV6 := Lib.hid (HV6.out.on HS7.out)
          clear hva0 hva1 hva2 hva3 hva4 hva5 hvb0 hvb1 hvb2 hvb3 hvb4 hvb5
          go_upto_region 9 with fail
          rw [← HWS7.out]
          have HD0 := Lib.hid ((Kept.refl (fun _ => False) ws7).drew)
          have HV4x := Lib.hid (HV4.out.on HD0.out)
          have HV5x := Lib.hid (HV5.out.on HD0.out)
          have HV6x := Lib.hid (HV6.out.on HD0.out)
          have HV7x := Lib.hid (HV7.out.on HD0.out)
          have HVAx := Lib.hid (HVA.out.on HD0.out)
          have HKx := Lib.hid (HK7.out.trans HD0.out)
          have HSS0 : Hid ((fun w' => (w'.cell? ⟨w4.heap.size, 0, none⟩ = some (.int .i64 RM.sc) ∧ w'.cell? ⟨w4.heap.size, 1, none⟩ = some (.int .u64 (RM.ze : Int)) ∧ w'.cell? ⟨w4.heap.size, 2, none⟩ = some (.int .i64 RM.po) ∧ w'.cell? ⟨w4.heap.size, 3, none⟩ = some (.slice a4 (uvals RM.pl).length q4) ∧ w'.cell? ⟨w4.heap.size, 4, none⟩ = some (.int .i64 RM.no) ∧ w'.cell? ⟨w4.heap.size, 5, none⟩ = some (.slice b4 (uvals RM.nl).length r4)) ∧ (w'.cell? ⟨w5.heap.size, 0, none⟩ = some (.int .i64 RM.sc) ∧ w'.cell? ⟨w5.heap.size, 1, none⟩ = some (.int .u64 (RM.ze : Int)) ∧ w'.cell? ⟨w5.heap.size, 2, none⟩ = some (.int .i64 RM.po) ∧ w'.cell? ⟨w5.heap.size, 3, none⟩ = some (.slice a5 (uvals RM.pl).length q5) ∧ w'.cell? ⟨w5.heap.size, 4, none⟩ = some (.int .i64 RM.no) ∧ w'.cell? ⟨w5.heap.size, 5, none⟩ = some (.slice b5 (uvals RM.nl).length r5)) ∧ (w'.cell? ⟨w6.heap.size, 0, none⟩ = some (.int .i64 RS.sc) ∧ w'.cell? ⟨w6.heap.size, 1, none⟩ = some (.int .u64 (RS.ze : Int)) ∧ w'.cell? ⟨w6.heap.size, 2, none⟩ = some (.int .i64 RS.po) ∧ w'.cell? ⟨w6.heap.size, 3, none⟩ = some (.slice a6 (uvals RS.pl).length q6) ∧ w'.cell? ⟨w6.heap.size, 4, none⟩ = some (.int .i64 RS.no) ∧ w'.cell? ⟨w6.heap.size, 5, none⟩ = some (.slice b6 (uvals RS.nl).length r6)) ∧ (w'.cell? ⟨w7.heap.size, 0, none⟩ = some (.int .i64 RS.sc) ∧ w'.cell? ⟨w7.heap.size, 1, none⟩ = some (.int .u64 (RS.ze : Int)) ∧ w'.cell? ⟨w7.heap.size, 2, none⟩ = some (.int .i64 RS.po) ∧ w'.cell? ⟨w7.heap.size, 3, none⟩ = some (.slice a7 (uvals RS.pl).length q7) ∧ w'.cell? ⟨w7.heap.size, 4, none⟩ = some (.int .i64 RS.no) ∧ w'.cell? ⟨w7.heap.size, 5, none⟩ = some (.slice b7 (uvals RS.nl).length r7)) ∧ (w'.cell? ⟨W.heap.size, 0, none⟩ = some (.int .i64 asc) ∧ w'.cell? ⟨W.heap.size, 1, none⟩ = some (.int .u64 (aze : Int)) ∧ w'.cell? ⟨W.heap.size, 2, none⟩ = some (.int .i64 apo) ∧ w'.cell? ⟨W.heap.size, 3, none⟩ = some (.slice ao apl.length c) ∧ w'.cell? ⟨W.heap.size, 4, none⟩ = some (.int .i64 ano) ∧ w'.cell? ⟨W.heap.size, 5, none⟩ = some (.slice a1 anl.length c1))) ws7.drew) := Lib.hid ⟨HV4x.out.box.c, HV5x.out.box.c, HV6x.out.box.c, HV7x.out.box.c, HVAx.out.box.c⟩
          skip
          refine AnyBut.start (S := fun w' => (w'.cell? ⟨w4.heap.size, 0, none⟩ = some (.int .i64 RM.sc) ∧ w'.cell? ⟨w4.heap.size, 1, none⟩ = some (.int .u64 (RM.ze : Int)) ∧ w'.cell? ⟨w4.heap.size, 2, none⟩ = some (.int .i64 RM.po) ∧ w'.cell? ⟨w4.heap.size, 3, none⟩ = some (.slice a4 (uvals RM.pl).length q4) ∧ w'.cell? ⟨w4.heap.size, 4, none⟩ = some (.int .i64 RM.no) ∧ w'.cell? ⟨w4.heap.size, 5, none⟩ = some (.slice b4 (uvals RM.nl).length r4)) ∧ (w'.cell? ⟨w5.heap.size, 0, none⟩ = some (.int .i64 RM.sc) ∧ w'.cell? ⟨w5.heap.size, 1, none⟩ = some (.int .u64 (RM.ze : Int)) ∧ w'.cell? ⟨w5.heap.size, 2, none⟩ = some (.int .i64 RM.po) ∧ w'.cell? ⟨w5.heap.size, 3, none⟩ = some (.slice a5 (uvals RM.pl).length q5) ∧ w'.cell? ⟨w5.heap.size, 4, none⟩ = some (.int .i64 RM.no) ∧ w'.cell? ⟨w5.heap.size, 5, none⟩ = some (.slice b5 (uvals RM.nl).length r5)) ∧ (w'.cell? ⟨w6.heap.size, 0, none⟩ = some (.int .i64 RS.sc) ∧ w'.cell? ⟨w6.heap.size, 1, none⟩ = some (.int .u64 (RS.ze : Int)) ∧ w'.cell? ⟨w6.heap.size, 2, none⟩ = some (.int .i64 RS.po) ∧ w'.cell? ⟨w6.heap.size, 3, none⟩ = some (.slice a6 (uvals RS.pl).length q6) ∧ w'.cell? ⟨w6.heap.size, 4, none⟩ = some (.int .i64 RS.no) ∧ w'.cell? ⟨w6.heap.size, 5, none⟩ = some (.slice b6 (uvals RS.nl).length r6)) ∧ (w'.cell? ⟨w7.heap.size, 0, none⟩ = some (.int .i64 RS.sc) ∧ w'.cell? ⟨w7.heap.size, 1, none⟩ = some (.int .u64 (RS.ze : Int)) ∧ w'.cell? ⟨w7.heap.size, 2, none⟩ = some (.int .i64 RS.po) ∧ w'.cell? ⟨w7.heap.size, 3, none⟩ = some (.slice a7 (uvals RS.pl).length q7) ∧ w'.cell? ⟨w7.heap.size, 4, none⟩ = some (.int .i64 RS.no) ∧ w'.cell? ⟨w7.heap.size, 5, none⟩ = some (.slice b7 (uvals RS.nl).length r7)) ∧ (w'.cell? ⟨W.heap.size, 0, none⟩ = some (.int .i64 asc) ∧ w'.cell? ⟨W.heap.size, 1, none⟩ = some (.int .u64 (aze : Int)) ∧ w'.cell? ⟨W.heap.size, 2, none⟩ = some (.int .i64 apo) ∧ w'.cell? ⟨W.heap.size, 3, none⟩ = some (.slice ao apl.length c) ∧ w'.cell? ⟨W.heap.size, 4, none⟩ = some (.int .i64 ano) ∧ w'.cell? ⟨W.heap.size, 5, none⟩ = some (.slice a1 anl.length c1))) (k := 41) (by kernel_rfl) ?_
          refine AnyBut.takeS (i := 0) (v := ?v77) rfl (by kernel_rfl) (Nat.le_of_eq (by kernel_rfl)) (by kernel_rfl) (by kernel_rfl) (fun _ _ _ h => h) (HSS0.out) (Or.inl ⟨by kernel_rfl, ?hy77⟩) ?r77
          case hy77 =>
            intro w hSw
            try dsimp only at hSw
            go_simp
            try with_reducible rfl
          try simp only [Act.put, List.getElem_toArray, List.getElem_cons_zero, List.setIfInBounds_toArray, List.set_cons_zero, List.set_cons_succ]
          refine AnyBut.takeS (i := 1) (v := ?v78) rfl (by kernel_rfl) (Nat.le_of_eq (by kernel_rfl)) (by kernel_rfl) (by kernel_rfl) (fun _ _ _ h => h) (HSS0.out) (Or.inl ⟨by kernel_rfl, ?hy78⟩) ?r78
          case hy78 =>
            intro w hSw
            try dsimp only at hSw
            go_simp
            try with_reducible rfl
          try simp only [Act.put, List.getElem_toArray, List.getElem_cons_succ, List.getElem_cons_zero, List.setIfInBounds_toArray, List.set_cons_zero, List.set_cons_succ]
          refine AnyBut.one (i := 2) (by kernel_rfl) rfl (fun K hK => ?_)
          go_simp
          go_wp2_with fail
          refine (HSM.out _ _ _ _ _ HV4x.out.at_ HV5x.out.at_).mono ?_
          rintro e w8 ⟨rfl, k8⟩
          have HS8 := Lib.hid k8
          clear k8
          have HKy := Lib.hid (HKx.out.trans HS8.out)
          have HV4y := Lib.hid (HV4x.out.on HS8.out)
          have HV5y := Lib.hid (HV5x.out.on HS8.out)
          have HV6y := Lib.hid (HV6x.out.on HS8.out)
          have HV7y := Lib.hid (HV7x.out.on HS8.out)
          have HVAy := Lib.hid (HVAx.out.on HS8.out)
          have HSS8 : Hid ((fun w' => (w'.cell? ⟨w4.heap.size, 0, none⟩ = some (.int .i64 RM.sc) ∧ w'.cell? ⟨w4.heap.size, 1, none⟩ = some (.int .u64 (RM.ze : Int)) ∧ w'.cell? ⟨w4.heap.size, 2, none⟩ = some (.int .i64 RM.po) ∧ w'.cell? ⟨w4.heap.size, 3, none⟩ = some (.slice a4 (uvals RM.pl).length q4) ∧ w'.cell? ⟨w4.heap.size, 4, none⟩ = some (.int .i64 RM.no) ∧ w'.cell? ⟨w4.heap.size, 5, none⟩ = some (.slice b4 (uvals RM.nl).length r4)) ∧ (w'.cell? ⟨w5.heap.size, 0, none⟩ = some (.int .i64 RM.sc) ∧ w'.cell? ⟨w5.heap.size, 1, none⟩ = some (.int .u64 (RM.ze : Int)) ∧ w'.cell? ⟨w5.heap.size, 2, none⟩ = some (.int .i64 RM.po) ∧ w'.cell? ⟨w5.heap.size, 3, none⟩ = some (.slice a5 (uvals RM.pl).length q5) ∧ w'.cell? ⟨w5.heap.size, 4, none⟩ = some (.int .i64 RM.no) ∧ w'.cell? ⟨w5.heap.size, 5, none⟩ = some (.slice b5 (uvals RM.nl).length r5)) ∧ (w'.cell? ⟨w6.heap.size, 0, none⟩ = some (.int .i64 RS.sc) ∧ w'.cell? ⟨w6.heap.size, 1, none⟩ = some (.int .u64 (RS.ze : Int)) ∧ w'.cell? ⟨w6.heap.size, 2, none⟩ = some (.int .i64 RS.po) ∧ w'.cell? ⟨w6.heap.size, 3, none⟩ = some (.slice a6 (uvals RS.pl).length q6) ∧ w'.cell? ⟨w6.heap.size, 4, none⟩ = some (.int .i64 RS.no) ∧ w'.cell? ⟨w6.heap.size, 5, none⟩ = some (.slice b6 (uvals RS.nl).length r6)) ∧ (w'.cell? ⟨w7.heap.size, 0, none⟩ = some (.int .i64 RS.sc) ∧ w'.cell? ⟨w7.heap.size, 1, none⟩ = some (.int .u64 (RS.ze : Int)) ∧ w'.cell? ⟨w7.heap.size, 2, none⟩ = some (.int .i64 RS.po) ∧ w'.cell? ⟨w7.heap.size, 3, none⟩ = some (.slice a7 (uvals RS.pl).length q7) ∧ w'.cell? ⟨w7.heap.size, 4, none⟩ = some (.int .i64 RS.no) ∧ w'.cell? ⟨w7.heap.size, 5, none⟩ = some (.slice b7 (uvals RS.nl).length r7)) ∧ (w'.cell? ⟨W.heap.size, 0, none⟩ = some (.int .i64 asc) ∧ w'.cell? ⟨W.heap.size, 1, none⟩ = some (.int .u64 (aze : Int)) ∧ w'.cell? ⟨W.heap.size, 2, none⟩ = some (.int .i64 apo) ∧ w'.cell? ⟨W.heap.size, 3, none⟩ = some (.slice ao apl.length c) ∧ w'.cell? ⟨W.heap.size, 4, none⟩ = some (.int .i64 ano) ∧ w'.cell? ⟨W.heap.size, 5, none⟩ = some (.slice a1 anl.length c1))) w8) := Lib.hid ⟨HV4y.out.box.c, HV5y.out.box.c, HV6y.out.box.c, HV7y.out.box.c, HVAy.out.box.c⟩
          go_wp2
          refine hK.out _ _ (HSS8.out) ?_
          clear hK K
          try simp only [Act.put, List.getElem_toArray, List.getElem_cons_succ, List.getElem_cons_zero, List.setIfInBounds_toArray, List.set_cons_zero, List.set_cons_succ]
          refine AnyBut.takeS (i := 3) (v := ?v79) rfl (by kernel_rfl) (Nat.le_of_eq (by kernel_rfl)) (by kernel_rfl) (by kernel_rfl) (fun _ _ _ h => h) (HSS8.out) (Or.inl ⟨by kernel_rfl, ?hy79⟩) ?r79
          case hy79 =>
            intro w hSw
            try dsimp only at hSw
            go_simp
            try with_reducible rfl
          try simp only [Act.put, List.getElem_toArray, List.getElem_cons_succ, List.getElem_cons_zero, List.setIfInBounds_toArray, List.set_cons_zero, List.set_cons_succ]
          refine AnyBut.takeS (i := 4) (v := ?v80) rfl (by kernel_rfl) (Nat.le_of_eq (by kernel_rfl)) (by kernel_rfl) (by kernel_rfl) (fun _ _ _ h => h) (HSS8.out) (Or.inl ⟨by kernel_rfl, ?hy80⟩) ?r80
          case hy80 =>
            intro w hSw
            try dsimp only at hSw
            go_simp
            try with_reducible rfl
          try simp only [Act.put, List.getElem_toArray, List.getElem_cons_succ, List.getElem_cons_zero, List.setIfInBounds_toArray, List.set_cons_zero, List.set_cons_succ]
          refine AnyBut.takeS (i := 5) (v := ?v81) rfl (by kernel_rfl) (Nat.le_of_eq (by kernel_rfl)) (by kernel_rfl) (by kernel_rfl) (fun _ _ _ h => h) (HSS8.out) (Or.inl ⟨by kernel_rfl, ?hy81⟩) ?r81
          case hy81 =>
            intro w hSw
            try dsimp only at hSw
            go_simp
            try with_reducible rfl
          try simp only [Act.put, List.getElem_toArray, List.getElem_cons_succ, List.getElem_cons_zero, List.setIfInBounds_toArray, List.set_cons_zero, List.set_cons_succ]
          refine AnyBut.takeS (i := 6) (v := ?v82) rfl (by kernel_rfl) (Nat.le_of_eq (by kernel_rfl)) (by kernel_rfl) (by kernel_rfl) (fun _ _ _ h => h) (HSS8.out) (Or.inl ⟨by kernel_rfl, ?hy82⟩) ?r82
          case hy82 =>
            intro w hSw
            try dsimp only at hSw
            go_simp
            try with_reducible rfl
          try simp only [Act.put, List.getElem_toArray, List.getElem_cons_succ, List.getElem_cons_zero, List.setIfInBounds_toArray, List.set_cons_zero, List.set_cons_succ]
          refine AnyBut.takeS (i := 7) (v := ?v83) rfl (by kernel_rfl) (Nat.le_of_eq (by kernel_rfl)) (by kernel_rfl) (by kernel_rfl) (fun _ _ _ h => h) (HSS8.out) (Or.inl ⟨by kernel_rfl, ?hy83⟩) ?r83
          case hy83 =>
            intro w hSw
            try dsimp only at hSw
            go_simp
            try with_reducible rfl
          try simp only [Act.put, List.getElem_toArray, List.getElem_cons_succ, List.getElem_cons_zero, List.setIfInBounds_toArray, List.set_cons_zero, List.set_cons_succ]
          refine AnyBut.takeS (i := 8) (v := ?v84) rfl (by kernel_rfl) (Nat.le_of_eq (by kernel_rfl)) (by kernel_rfl) (by kernel_rfl) (fun _ _ _ h => h) (HSS8.out) (Or.inl ⟨by kernel_rfl, ?hy84⟩) ?r84
          case hy84 =>
            intro w hSw
            try dsimp only at hSw
            go_simp
            try with_reducible rfl
          try simp only [Act.put, List.getElem_toArray, List.getElem_cons_succ, List.getElem_cons_zero, List.setIfInBounds_toArray, List.set_cons_zero, List.set_cons_succ]
          refine AnyBut.takeS (i := 9) (v := ?v85) rfl (by kernel_rfl) (Nat.le_of_eq (by kernel_rfl)) (by kernel_rfl) (by kernel_rfl) (fun _ _ _ h => h) (HSS8.out) (Or.inl ⟨by kernel_rfl, ?hy85⟩) ?r85
          case hy85 =>
            intro w hSw
            try dsimp only at hSw
            go_simp
            try with_reducible rfl
          try simp only [Act.put, List.getElem_toArray, List.getElem_cons_succ, List.getElem_cons_zero, List.setIfInBounds_toArray, List.set_cons_zero, List.set_cons_succ]
          refine AnyBut.takeS (i := 10) (v := ?v86) rfl (by kernel_rfl) (Nat.le_of_eq (by kernel_rfl)) (by kernel_rfl) (by kernel_rfl) (fun _ _ _ h => h) (HSS8.out) (Or.inl ⟨by kernel_rfl, ?hy86⟩) ?r86
          case hy86 =>
            intro w hSw
            try dsimp only at hSw
            go_simp
            try with_reducible rfl
          try simp only [Act.put, List.getElem_toArray, List.getElem_cons_succ, List.getElem_cons_zero, List.setIfInBounds_toArray, List.set_cons_zero, List.set_cons_succ]
          refine AnyBut.one (i := 11) (by kernel_rfl) rfl (fun K hK => ?_)
          go_simp
          go_wp2_with fail
          refine (HSS.out _ _ _ _ _ HV6y.out.at_ HV7y.out.at_).mono ?_
          rintro e w9 ⟨rfl, k9⟩
          have HS9 := Lib.hid k9
          clear k9
          have HKz := Lib.hid (HKy.out.trans HS9.out)
          have HV4z := Lib.hid (HV4y.out.on HS9.out)
          have HV5z := Lib.hid (HV5y.out.on HS9.out)
          have HV6z := Lib.hid (HV6y.out.on HS9.out)
          have HV7z := Lib.hid (HV7y.out.on HS9.out)
          have HVAz := Lib.hid (HVAy.out.on HS9.out)
          have HSS9 : Hid ((fun w' => (w'.cell? ⟨w4.heap.size, 0, none⟩ = some (.int .i64 RM.sc) ∧ w'.cell? ⟨w4.heap.size, 1, none⟩ = some (.int .u64 (RM.ze : Int)) ∧ w'.cell? ⟨w4.heap.size, 2, none⟩ = some (.int .i64 RM.po) ∧ w'.cell? ⟨w4.heap.size, 3, none⟩ = some (.slice a4 (uvals RM.pl).length q4) ∧ w'.cell? ⟨w4.heap.size, 4, none⟩ = some (.int .i64 RM.no) ∧ w'.cell? ⟨w4.heap.size, 5, none⟩ = some (.slice b4 (uvals RM.nl).length r4)) ∧ (w'.cell? ⟨w5.heap.size, 0, none⟩ = some (.int .i64 RM.sc) ∧ w'.cell? ⟨w5.heap.size, 1, none⟩ = some (.int .u64 (RM.ze : Int)) ∧ w'.cell? ⟨w5.heap.size, 2, none⟩ = some (.int .i64 RM.po) ∧ w'.cell? ⟨w5.heap.size, 3, none⟩ = some (.slice a5 (uvals RM.pl).length q5) ∧ w'.cell? ⟨w5.heap.size, 4, none⟩ = some (.int .i64 RM.no) ∧ w'.cell? ⟨w5.heap.size, 5, none⟩ = some (.slice b5 (uvals RM.nl).length r5)) ∧ (w'.cell? ⟨w6.heap.size, 0, none⟩ = some (.int .i64 RS.sc) ∧ w'.cell? ⟨w6.heap.size, 1, none⟩ = some (.int .u64 (RS.ze : Int)) ∧ w'.cell? ⟨w6.heap.size, 2, none⟩ = some (.int .i64 RS.po) ∧ w'.cell? ⟨w6.heap.size, 3, none⟩ = some (.slice a6 (uvals RS.pl).length q6) ∧ w'.cell? ⟨w6.heap.size, 4, none⟩ = some (.int .i64 RS.no) ∧ w'.cell? ⟨w6.heap.size, 5, none⟩ = some (.slice b6 (uvals RS.nl).length r6)) ∧ (w'.cell? ⟨w7.heap.size, 0, none⟩ = some (.int .i64 RS.sc) ∧ w'.cell? ⟨w7.heap.size, 1, none⟩ = some (.int .u64 (RS.ze : Int)) ∧ w'.cell? ⟨w7.heap.size, 2, none⟩ = some (.int .i64 RS.po) ∧ w'.cell? ⟨w7.heap.size, 3, none⟩ = some (.slice a7 (uvals RS.pl).length q7) ∧ w'.cell? ⟨w7.heap.size, 4, none⟩ = some (.int .i64 RS.no) ∧ w'.cell? ⟨w7.heap.size, 5, none⟩ = some (.slice b7 (uvals RS.nl).length r7)) ∧ (w'.cell? ⟨W.heap.size, 0, none⟩ = some (.int .i64 asc) ∧ w'.cell? ⟨W.heap.size, 1, none⟩ = some (.int .u64 (aze : Int)) ∧ w'.cell? ⟨W.heap.size, 2, none⟩ = some (.int .i64 apo) ∧ w'.cell? ⟨W.heap.size, 3, none⟩ = some (.slice ao apl.length c) ∧ w'.cell? ⟨W.heap.size, 4, none⟩ = some (.int .i64 ano) ∧ w'.cell? ⟨W.heap.size, 5, none⟩ = some (.slice a1 anl.length c1))) w9) := Lib.hid ⟨HV4z.out.box.c, HV5z.out.box.c, HV6z.out.box.c, HV7z.out.box.c, HVAz.out.box.c⟩
          go_wp2
          refine hK.out _ _ (HSS9.out) ?_
          clear hK K
          try simp only [Act.put, List.getElem_toArray, List.getElem_cons_succ, List.getElem_cons_zero, List.setIfInBounds_toArray, List.set_cons_zero, List.set_cons_succ]
          refine AnyBut.takeS (i := 12) (v := ?v87) rfl (by kernel_rfl) (Nat.le_of_eq (by kernel_rfl)) (by kernel_rfl) (by kernel_rfl) (fun _ _ _ h => h) (HSS9.out) (Or.inl ⟨by kernel_rfl, ?hy87⟩) ?r87
          case hy87 =>
            intro w hSw
            try dsimp only at hSw
            go_simp
            try with_reducible rfl
          try simp only [Act.put, List.getElem_toArray, List.getElem_cons_succ, List.getElem_cons_zero, List.setIfInBounds_toArray, List.set_cons_zero, List.set_cons_succ]
          refine AnyBut.takeS (i := 13) (v := ?v88) rfl (by kernel_rfl) (Nat.le_of_eq (by kernel_rfl)) (by kernel_rfl) (by kernel_rfl) (fun _ _ _ h => h) (HSS9.out) (Or.inl ⟨by kernel_rfl, ?hy88⟩) ?r88
          case hy88 =>
            intro w hSw
            try dsimp only at hSw
            go_simp
            try with_reducible rfl
          try simp only [Act.put, List.getElem_toArray, List.getElem_cons_succ, List.getElem_cons_zero, List.setIfInBounds_toArray, List.set_cons_zero, List.set_cons_succ]
          refine AnyBut.takeS (i := 14) (v := ?v89) rfl (by kernel_rfl) (Nat.le_of_eq (by kernel_rfl)) (by kernel_rfl) (by kernel_rfl) (fun _ _ _ h => h) (HSS9.out) (Or.inl ⟨by kernel_rfl, ?hy89⟩) ?r89
          case hy89 =>
            intro w hSw
            try dsimp only at hSw
            go_simp
            try with_reducible rfl
          try simp only [Act.put, List.getElem_toArray, List.getElem_cons_succ, List.getElem_cons_zero, List.setIfInBounds_toArray, List.set_cons_zero, List.set_cons_succ]
          refine AnyBut.takeS (i := 15) (v := ?v90) rfl (by kernel_rfl) (Nat.le_of_eq (by kernel_rfl)) (by kernel_rfl) (by kernel_rfl) (fun _ _ _ h => h) (HSS9.out) (Or.inl ⟨by kernel_rfl, ?hy90⟩) ?r90
          case hy90 =>
            intro w hSw
            try dsimp only at hSw
            go_simp
            try with_reducible rfl
          try simp only [Act.put, List.getElem_toArray, List.getElem_cons_succ, List.getElem_cons_zero, List.setIfInBounds_toArray, List.set_cons_zero, List.set_cons_succ]
          refine AnyBut.takeS (i := 16) (v := ?v91) rfl (by kernel_rfl) (Nat.le_of_eq (by kernel_rfl)) (by kernel_rfl) (by kernel_rfl) (fun _ _ _ h => h) (HSS9.out) (Or.inl ⟨by kernel_rfl, ?hy91⟩) ?r91
          case hy91 =>
            intro w hSw
            try dsimp only at hSw
            go_simp
            try with_reducible rfl
          try simp only [Act.put, List.getElem_toArray, List.getElem_cons_succ, List.getElem_cons_zero, List.setIfInBounds_toArray, List.set_cons_zero, List.set_cons_succ]
          refine AnyBut.takeS (i := 17) (v := ?v92) rfl (by kernel_rfl) (Nat.le_of_eq (by kernel_rfl)) (by kernel_rfl) (by kernel_rfl) (fun _ _ _ h => h) (HSS9.out) (Or.inl ⟨by kernel_rfl, ?hy92⟩) ?r92
          case hy92 =>
            intro w hSw
            try dsimp only at hSw
            go_simp
            try with_reducible rfl
          try simp only [Act.put, List.getElem_toArray, List.getElem_cons_succ, List.getElem_cons_zero, List.setIfInBounds_toArray, List.set_cons_zero, List.set_cons_succ]
          refine AnyBut.takeS (i := 18) (v := ?v93) rfl (by kernel_rfl) (Nat.le_of_eq (by kernel_rfl)) (by kernel_rfl) (by kernel_rfl) (fun _ _ _ h => h) (HSS9.out) (Or.inl ⟨by kernel_rfl, ?hy93⟩) ?r93
          case hy93 =>
            intro w hSw
            try dsimp only at hSw
            go_simp
            try with_reducible rfl
          try simp only [Act.put, List.getElem_toArray, List.getElem_cons_succ, List.getElem_cons_zero, List.setIfInBounds_toArray, List.set_cons_zero, List.set_cons_succ]
          refine AnyBut.takeS (i := 19) (v := ?v94) rfl (by kernel_rfl) (Nat.le_of_eq (by kernel_rfl)) (by kernel_rfl) (by kernel_rfl) (fun _ _ _ h => h) (HSS9.out) (Or.inl ⟨by kernel_rfl, ?hy94⟩) ?r94
          case hy94 =>
            intro w hSw
            try dsimp only at hSw
            go_simp
            try with_reducible rfl
          try simp only [Act.put, List.getElem_toArray, List.getElem_cons_succ, List.getElem_cons_zero, List.setIfInBounds_toArray, List.set_cons_zero, List.set_cons_succ]
          refine AnyBut.takeS (i := 21) (v := ?v95) rfl (by kernel_rfl) (Nat.le_of_eq (by kernel_rfl)) (by kernel_rfl) (by kernel_rfl) (fun _ _ _ h => h) (HSS9.out) (Or.inl ⟨by kernel_rfl, ?hy95⟩) ?r95
          case hy95 =>
            intro w hSw
            try dsimp only at hSw
            go_simp
            try with_reducible rfl
          try simp only [Act.put, List.getElem_toArray, List.getElem_cons_succ, List.getElem_cons_zero, List.setIfInBounds_toArray, List.set_cons_zero, List.set_cons_succ]
          refine AnyBut.takeS (i := 22) (v := ?v96) rfl (by kernel_rfl) (Nat.le_of_eq (by kernel_rfl)) (by kernel_rfl) (by kernel_rfl) (fun _ _ _ h => h) (HSS9.out) (Or.inl ⟨by kernel_rfl, ?hy96⟩) ?r96
          case hy96 =>
            intro w hSw
            try dsimp only at hSw
            go_simp
            try with_reducible rfl
          try simp only [Act.put, List.getElem_toArray, List.getElem_cons_succ, List.getElem_cons_zero, List.setIfInBounds_toArray, List.set_cons_zero, List.set_cons_succ]
          refine AnyBut.takeS (i := 23) (v := ?v97) rfl (by kernel_rfl) (Nat.le_of_eq (by kernel_rfl)) (by kernel_rfl) (by kernel_rfl) (fun _ _ _ h => h) (HSS9.out) (Or.inl ⟨by kernel_rfl, ?hy97⟩) ?r97
          case hy97 =>
            intro w hSw
            try dsimp only at hSw
            go_simp
            try with_reducible rfl
          try simp only [Act.put, List.getElem_toArray, List.getElem_cons_succ, List.getElem_cons_zero, List.setIfInBounds_toArray, List.set_cons_zero, List.set_cons_succ]
          refine AnyBut.one (i := 20) (by kernel_rfl) rfl (fun K hK => ?_)
          go_simp
          go_wp2_with fail
          refine (HEM.out _ HVAz.out.at_).mono ?_
          rintro e w10 ⟨rfl, k10⟩
          have HS10 := Lib.hid k10
          clear k10
          have HKu := Lib.hid (HKz.out.trans HS10.out)
          have HV4u := Lib.hid (HV4z.out.on HS10.out)
          have HV5u := Lib.hid (HV5z.out.on HS10.out)
          have HV6u := Lib.hid (HV6z.out.on HS10.out)
          have HV7u := Lib.hid (HV7z.out.on HS10.out)
          have HVAu := Lib.hid (HVAz.out.on HS10.out)
          have HSS10 : Hid ((fun w' => (w'.cell? ⟨w4.heap.size, 0, none⟩ = some (.int .i64 RM.sc) ∧ w'.cell? ⟨w4.heap.size, 1, none⟩ = some (.int .u64 (RM.ze : Int)) ∧ w'.cell? ⟨w4.heap.size, 2, none⟩ = some (.int .i64 RM.po) ∧ w'.cell? ⟨w4.heap.size, 3, none⟩ = some (.slice a4 (uvals RM.pl).length q4) ∧ w'.cell? ⟨w4.heap.size, 4, none⟩ = some (.int .i64 RM.no) ∧ w'.cell? ⟨w4.heap.size, 5, none⟩ = some (.slice b4 (uvals RM.nl).length r4)) ∧ (w'.cell? ⟨w5.heap.size, 0, none⟩ = some (.int .i64 RM.sc) ∧ w'.cell? ⟨w5.heap.size, 1, none⟩ = some (.int .u64 (RM.ze : Int)) ∧ w'.cell? ⟨w5.heap.size, 2, none⟩ = some (.int .i64 RM.po) ∧ w'.cell? ⟨w5.heap.size, 3, none⟩ = some (.slice a5 (uvals RM.pl).length q5) ∧ w'.cell? ⟨w5.heap.size, 4, none⟩ = some (.int .i64 RM.no) ∧ w'.cell? ⟨w5.heap.size, 5, none⟩ = some (.slice b5 (uvals RM.nl).length r5)) ∧ (w'.cell? ⟨w6.heap.size, 0, none⟩ = some (.int .i64 RS.sc) ∧ w'.cell? ⟨w6.heap.size, 1, none⟩ = some (.int .u64 (RS.ze : Int)) ∧ w'.cell? ⟨w6.heap.size, 2, none⟩ = some (.int .i64 RS.po) ∧ w'.cell? ⟨w6.heap.size, 3, none⟩ = some (.slice a6 (uvals RS.pl).length q6) ∧ w'.cell? ⟨w6.heap.size, 4, none⟩ = some (.int .i64 RS.no) ∧ w'.cell? ⟨w6.heap.size, 5, none⟩ = some (.slice b6 (uvals RS.nl).length r6)) ∧ (w'.cell? ⟨w7.heap.size, 0, none⟩ = some (.int .i64 RS.sc) ∧ w'.cell? ⟨w7.heap.size, 1, none⟩ = some (.int .u64 (RS.ze : Int)) ∧ w'.cell? ⟨w7.heap.size, 2, none⟩ = some (.int .i64 RS.po) ∧ w'.cell? ⟨w7.heap.size, 3, none⟩ = some (.slice a7 (uvals RS.pl).length q7) ∧ w'.cell? ⟨w7.heap.size, 4, none⟩ = some (.int .i64 RS.no) ∧ w'.cell? ⟨w7.heap.size, 5, none⟩ = some (.slice b7 (uvals RS.nl).length r7)) ∧ (w'.cell? ⟨W.heap.size, 0, none⟩ = some (.int .i64 asc) ∧ w'.cell? ⟨W.heap.size, 1, none⟩ = some (.int .u64 (aze : Int)) ∧ w'.cell? ⟨W.heap.size, 2, none⟩ = some (.int .i64 apo) ∧ w'.cell? ⟨W.heap.size, 3, none⟩ = some (.slice ao apl.length c) ∧ w'.cell? ⟨W.heap.size, 4, none⟩ = some (.int .i64 ano) ∧ w'.cell? ⟨W.heap.size, 5, none⟩ = some (.slice a1 anl.length c1))) w10) := Lib.hid ⟨HV4u.out.box.c, HV5u.out.box.c, HV6u.out.box.c, HV7u.out.box.c, HVAu.out.box.c⟩
          go_wp2
          refine hK.out _ _ (HSS10.out) ?_
          clear hK K
          try simp only [Act.put, List.getElem_toArray, List.getElem_cons_succ, List.getElem_cons_zero, List.setIfInBounds_toArray, List.set_cons_zero, List.set_cons_succ]
          refine AnyBut.takeS (i := 24) (v := ?v98) rfl (by kernel_rfl) (Nat.le_of_eq (by kernel_rfl)) (by kernel_rfl) (by kernel_rfl) (fun _ _ _ h => h) (HSS10.out) (Or.inl ⟨by kernel_rfl, ?hy98⟩) ?r98
          case hy98 =>
            intro w hSw
            try dsimp only at hSw
            go_simp
            try with_reducible rfl
          try simp only [Act.put, List.getElem_toArray, List.getElem_cons_succ, List.getElem_cons_zero, List.setIfInBounds_toArray, List.set_cons_zero, List.set_cons_succ]
          refine AnyBut.takeS (i := 25) (v := ?v99) rfl (by kernel_rfl) (Nat.le_of_eq (by kernel_rfl)) (by kernel_rfl) (by kernel_rfl) (fun _ _ _ h => h) (HSS10.out) (Or.inl ⟨by kernel_rfl, ?hy99⟩) ?r99
          case hy99 =>
            intro w hSw
            try dsimp only at hSw
            go_simp
            try with_reducible rfl
          try simp only [Act.put, List.getElem_toArray, List.getElem_cons_succ, List.getElem_cons_zero, List.setIfInBounds_toArray, List.set_cons_zero, List.set_cons_succ]
          refine AnyBut.takeS (i := 26) (v := ?v100) rfl (by kernel_rfl) (Nat.le_of_eq (by kernel_rfl)) (by kernel_rfl) (by kernel_rfl) (fun _ _ _ h => h) (HSS10.out) (Or.inl ⟨by kernel_rfl, ?hy100⟩) ?r100
          case hy100 =>
            intro w hSw
            try dsimp only at hSw
            go_simp
            try with_reducible rfl
          try simp only [Act.put, List.getElem_toArray, List.getElem_cons_succ, List.getElem_cons_zero, List.setIfInBounds_toArray, List.set_cons_zero, List.set_cons_succ]
          refine AnyBut.takeS (i := 27) (v := ?v101) rfl (by kernel_rfl) (Nat.le_of_eq (by kernel_rfl)) (by kernel_rfl) (by kernel_rfl) (fun _ _ _ h => h) (HSS10.out) (Or.inl ⟨by kernel_rfl, ?hy101⟩) ?r101
          case hy101 =>
            intro w hSw
            try dsimp only at hSw
            go_simp
            try with_reducible rfl
          try simp only [Act.put, List.getElem_toArray, List.getElem_cons_succ, List.getElem_cons_zero, List.setIfInBounds_toArray, List.set_cons_zero, List.set_cons_succ]
          refine AnyBut.takeS (i := 28) (v := ?v102) rfl (by kernel_rfl) (Nat.le_of_eq (by kernel_rfl)) (by kernel_rfl) (by kernel_rfl) (fun _ _ _ h => h) (HSS10.out) (Or.inl ⟨by kernel_rfl, ?hy102⟩) ?r102
          case hy102 =>
            intro w hSw
            try dsimp only at hSw
            go_simp
            try with_reducible rfl
          try simp only [Act.put, List.getElem_toArray, List.getElem_cons_succ, List.getElem_cons_zero, List.setIfInBounds_toArray, List.set_cons_zero, List.set_cons_succ]
          refine AnyBut.takeS (i := 29) (v := ?v103) rfl (by kernel_rfl) (Nat.le_of_eq (by kernel_rfl)) (by kernel_rfl) (by kernel_rfl) (fun _ _ _ h => h) (HSS10.out) (Or.inl ⟨by kernel_rfl, ?hy103⟩) ?r103
          case hy103 =>
            intro w hSw
            try dsimp only at hSw
            go_simp
            try with_reducible rfl
          try simp only [Act.put, List.getElem_toArray, List.getElem_cons_succ, List.getElem_cons_zero, List.setIfInBounds_toArray, List.set_cons_zero, List.set_cons_succ]
          refine AnyBut.takeS (i := 30) (v := ?v104) rfl (by kernel_rfl) (Nat.le_of_eq (by kernel_rfl)) (by kernel_rfl) (by kernel_rfl) (fun _ _ _ h => h) (HSS10.out) (Or.inl ⟨by kernel_rfl, ?hy104⟩) ?r104
          case hy104 =>
            intro w hSw
            try dsimp only at hSw
            go_simp
            try with_reducible rfl
          try simp only [Act.put, List.getElem_toArray, List.getElem_cons_succ, List.getElem_cons_zero, List.setIfInBounds_toArray, List.set_cons_zero, List.set_cons_succ]
          refine AnyBut.takeS (i := 31) (v := ?v105) rfl (by kernel_rfl) (Nat.le_of_eq (by kernel_rfl)) (by kernel_rfl) (by kernel_rfl) (fun _ _ _ h => h) (HSS10.out) (Or.inl ⟨by kernel_rfl, ?hy105⟩) ?r105
          case hy105 =>
            intro w hSw
            try dsimp only at hSw
            go_simp
            try with_reducible rfl
          try simp only [Act.put, List.getElem_toArray, List.getElem_cons_succ, List.getElem_cons_zero, List.setIfInBounds_toArray, List.set_cons_zero, List.set_cons_succ]
          refine AnyBut.takeS (i := 32) (v := undef) rfl (by kernel_rfl) (Nat.le_of_eq (by kernel_rfl)) (by kernel_rfl) (by kernel_rfl) (fun _ _ _ h => h) (HSS10.out) (Or.inr ⟨by kernel_rfl, rfl⟩) ?r106
          try simp only [Act.put, List.getElem_toArray, List.getElem_cons_succ, List.getElem_cons_zero, List.setIfInBounds_toArray, List.set_cons_zero, List.set_cons_succ]
          refine AnyBut.takeS (i := 33) (v := undef) rfl (by kernel_rfl) (Nat.le_of_eq (by kernel_rfl)) (by kernel_rfl) (by kernel_rfl) (fun _ _ _ h => h) (HSS10.out) (Or.inr ⟨by kernel_rfl, rfl⟩) ?r107
          try simp only [Act.put, List.getElem_toArray, List.getElem_cons_succ, List.getElem_cons_zero, List.setIfInBounds_toArray, List.set_cons_zero, List.set_cons_succ]
          refine AnyBut.takeS (i := 34) (v := undef) rfl (by kernel_rfl) (Nat.le_of_eq (by kernel_rfl)) (by kernel_rfl) (by kernel_rfl) (fun _ _ _ h => h) (HSS10.out) (Or.inr ⟨by kernel_rfl, rfl⟩) ?r108
          try simp only [Act.put, List.getElem_toArray, List.getElem_cons_succ, List.getElem_cons_zero, List.setIfInBounds_toArray, List.set_cons_zero, List.set_cons_succ]
          refine AnyBut.takeS (i := 35) (v := undef) rfl (by kernel_rfl) (Nat.le_of_eq (by kernel_rfl)) (by kernel_rfl) (by kernel_rfl) (fun _ _ _ h => h) (HSS10.out) (Or.inr ⟨by kernel_rfl, rfl⟩) ?r109
          try simp only [Act.put, List.getElem_toArray, List.getElem_cons_succ, List.getElem_cons_zero, List.setIfInBounds_toArray, List.set_cons_zero, List.set_cons_succ]
          refine AnyBut.takeS (i := 36) (v := undef) rfl (by kernel_rfl) (Nat.le_of_eq (by kernel_rfl)) (by kernel_rfl) (by kernel_rfl) (fun _ _ _ h => h) (HSS10.out) (Or.inr ⟨by kernel_rfl, rfl⟩) ?r110
          try simp only [Act.put, List.getElem_toArray, List.getElem_cons_succ, List.getElem_cons_zero, List.setIfInBounds_toArray, List.set_cons_zero, List.set_cons_succ]
          refine AnyBut.takeS (i := 37) (v := ?v111) rfl (by kernel_rfl) (Nat.le_of_eq (by kernel_rfl)) (by kernel_rfl) (by kernel_rfl) (fun _ _ _ h => h) (HSS10.out) (Or.inl ⟨by kernel_rfl, ?hy111⟩) ?r111
          case hy111 =>
            intro w hSw
            try dsimp only at hSw
            go_simp
            try with_reducible rfl
          try simp only [Act.put, List.getElem_toArray, List.getElem_cons_succ, List.getElem_cons_zero, List.setIfInBounds_toArray, List.set_cons_zero, List.set_cons_succ]
          refine AnyBut.takeS (i := 38) (v := ?v112) rfl (by kernel_rfl) (Nat.le_of_eq (by kernel_rfl)) (by kernel_rfl) (by kernel_rfl) (fun _ _ _ h => h) (HSS10.out) (Or.inl ⟨by kernel_rfl, ?hy112⟩) ?r112
          case hy112 =>
            intro w hSw
            try dsimp only at hSw
            go_simp
            try with_reducible rfl
          try simp only [Act.put, List.getElem_toArray, List.getElem_cons_succ, List.getElem_cons_zero, List.setIfInBounds_toArray, List.set_cons_zero, List.set_cons_succ]
          refine AnyBut.takeS (i := 39) (v := ?v113) rfl (by kernel_rfl) (Nat.le_of_eq (by kernel_rfl)) (by kernel_rfl) (by kernel_rfl) (fun _ _ _ h => h) (HSS10.out) (Or.inl ⟨by kernel_rfl, ?hy113⟩) ?r113
          case hy113 =>
            intro w hSw
            try dsimp only at hSw
            go_simp
            try with_reducible rfl
          try simp only [Act.put, List.getElem_toArray, List.getElem_cons_succ, List.getElem_cons_zero, List.setIfInBounds_toArray, List.set_cons_zero, List.set_cons_succ]
          refine AnyBut.takeS (i := 40) (v := ?v114) rfl (by kernel_rfl) (Nat.le_of_eq (by kernel_rfl)) (by kernel_rfl) (by kernel_rfl) (fun _ _ _ h => h) (HSS10.out) (Or.inl ⟨by kernel_rfl, ?hy114⟩) ?r114
          case hy114 =>
            intro w hSw
            try dsimp only at hSw
            go_simp
            try with_reducible rfl
          try simp only [Act.put, List.getElem_toArray, List.getElem_cons_succ, List.getElem_cons_zero, List.setIfInBounds_toArray, List.set_cons_zero, List.set_cons_succ]
          refine AnyBut.done (by kernel_rfl) ?_
          go_wp2
          go_ret
          exact ⟨by kernel_rfl, HKW.out.trans HKu.out⟩
      · have z0 : ((a.ze : Int) == 0) = false := beqF (by omega)
        rw [decide_eq_false (by omega)] at HEM
        clear h0
        clear hrs hPS hRM hEM lm ls ha hb hla hlb k0 hw0
        obtain ⟨asc, aze, apo, apl, ano, anl⟩ := a
        obtain ⟨bsc, bze, bpo, bpl, bno, bnl⟩ := b
        unfold histV at HLA HLB HM1 HM2 HU1 HU2 HEM ⊢
        simp only at z0 HLA HLB HM1 HM2 HU1 HU2 HEM HW0 ⊢
        go_enter Try.func9, Try.ntmps9
        go_upto_region 1 with fail
        rw [← HW0.out]
        go_wp2_with fail
        refine HAW.out.mono ?_
        rintro e w1 ⟨rfl, k1⟩
        have HS1 := Lib.hid k1
        have HK1 := Lib.hid k1
        clear k1
        have HVA := Lib.hid (HVA.out.on HS1.out)
        have HVB := Lib.hid (HVB.out.on HS1.out)
        obtain ⟨hva0, hva1, hva2, hva3, hva4, hva5⟩ := HVA.out.box.c
        go_wp2_with fail
        refine (HLA.out _ HVA.out.at_).mono ?_
        rintro e w2 ⟨rfl, k2⟩
        have HS2 := Lib.hid k2
        clear k2
        have HK2 := Lib.hid (HK1.out.trans HS2.out)
        have HVA := Lib.hid (HVA.out.on HS2.out)
        have HVB := Lib.hid (HVB.out.on HS2.out)
        clear hva0 hva1 hva2 hva3 hva4 hva5
        obtain ⟨hvb0, hvb1, hvb2, hvb3, hvb4, hvb5⟩ := HVB.out.box.c
        go_wp2_with fail
        refine (HLB.out _ HVB.out.at_).mono ?_
        rintro e w3 ⟨rfl, k3⟩
        have HS3 := Lib.hid k3
        clear k3
        have HK3 := Lib.hid (HK2.out.trans HS3.out)
        have HVA := Lib.hid (HVA.out.on HS3.out)
        have HVB := Lib.hid (HVB.out.on HS3.out)
        clear hvb0 hvb1 hvb2 hvb3 hvb4 hvb5
        obtain ⟨hva0, hva1, hva2, hva3, hva4, hva5⟩ := HVA.out.box.c
        obtain ⟨hvb0, hvb1, hvb2, hvb3, hvb4, hvb5⟩ := HVB.out.box.c
        go_wp2_with fail
        refine (HM1.out _ HVA.out.at_ HVB.out.at_).mono ?_
        rintro e w4 ⟨pv, nv, rfl, m1, m2⟩
        obtain ⟨a4, q4, rfl⟩ := m1.slice
        obtain ⟨b4, r4, rfl⟩ := m2.slice
        unfold histV
        dsimp only
        have hs := m1.kept.alloc (.cells #[.int .i64 RM.sc, .int .u64 (RM.ze : Int), .int .i64 RM.po, .slice a4 (uvals RM.pl).length q4, .int .i64 RM.no, .slice b4 (uvals RM.nl).length r4] 27)
        have hv := HV.mk' m1 m2
        obtain ⟨ws4, hws⟩ : ∃ w', w' = w4.alloc (.cells #[.int .i64 RM.sc, .int .u64 (RM.ze : Int), .int .i64 RM.po, .slice a4 (uvals RM.pl).length q4, .int .i64 RM.no, .slice b4 (uvals RM.nl).length r4] 27) := ⟨_, rfl⟩
        rw [← hws] at hs hv
        have HS4 := Lib.hid hs
        have HV4 := Lib.hid hv
        have HWS4 := Lib.hid hws
        clear hs hv hws m1 m2
        have HK4 := Lib.hid (HK3.out.trans HS4.out)
        have HVA := Lib.hid (HVA.out.on HS4.out)
        have HVB := Lib.hid (HVB.out.on HS4.out)
        clear hva0 hva1 hva2 hva3 hva4 hva5 hvb0 hvb1 hvb2 hvb3 hvb4 hvb5
        go_upto_region 6 with fail
        rw [← HWS4.out]
        obtain ⟨hva0, hva1, hva2, hva3, hva4, hva5⟩ := HVA.out.box.c
        obtain ⟨hvb0, hvb1, hvb2, hvb3, hvb4, hvb5⟩ := HVB.out.box.c
        go_wp2_with fail
        refine (HM2.out _ HVA.out.at_ HVB.out.at_).mono ?_
        rintro e w5 ⟨pv, nv, rfl, m1, m2⟩
        obtain ⟨a5, q5, rfl⟩ := m1.slice
        obtain ⟨b5, r5, rfl⟩ := m2.slice
        unfold histV
        dsimp only
        have hs := m1.kept.alloc (.cells #[.int .i64 RM.sc, .int .u64 (RM.ze : Int), .int .i64 RM.po, .slice a5 (uvals RM.pl).length q5, .int .i64 RM.no, .slice b5 (uvals RM.nl).length r5] 27)
        have hv := HV.mk' m1 m2
        obtain ⟨ws5, hws⟩ : ∃ w', w' = w5.alloc (.cells #[.int .i64 RM.sc, .int .u64 (RM.ze : Int), .int .i64 RM.po, .slice a5 (uvals RM.pl).length q5, .int .i64 RM.no, .slice b5 (uvals RM.nl).length r5] 27) := ⟨_, rfl⟩
        rw [← hws] at hs hv
        have HS5 := Lib.hid hs
        have HV5 := Lib.hid hv
        have HWS5 := Lib.hid hws
        clear hs hv hws m1 m2
        have HK5 := Lib.hid (HK4.out.trans HS5.out)
        have HVA := Lib.hid (HVA.out.on HS5.out)
        have HVB := Lib.hid (HVB.out.on HS5.out)
        have HV4 := Lib.hid (HV4.out.on HS5.out)
        clear hva0 hva1 hva2 hva3 hva4 hva5 hvb0 hvb1 hvb2 hvb3 hvb4 hvb5
        go_upto_region 7 with fail
        rw [← HWS5.out]
        obtain ⟨hva0, hva1, hva2, hva3, hva4, hva5⟩ := HVA.out.box.c
        obtain ⟨hvb0, hvb1, hvb2, hvb3, hvb4, hvb5⟩ := HVB.out.box.c
        go_wp2_with fail
        refine (HU1.out _ HVA.out.at_ HVB.out.at_).mono ?_
        rintro e w6 ⟨R', E', hr, pv, nv, rfl, m1, m2⟩
        obtain ⟨rfl, rfl⟩ := HRS.out _ _ hr
        clear hr
        obtain ⟨a6, q6, rfl⟩ := m1.slice
        obtain ⟨b6, r6, rfl⟩ := m2.slice
        unfold histV
        dsimp only
        have hs := m1.kept.alloc (.cells #[.int .i64 RS.sc, .int .u64 (RS.ze : Int), .int .i64 RS.po, .slice a6 (uvals RS.pl).length q6, .int .i64 RS.no, .slice b6 (uvals RS.nl).length r6] 27)
        have hv := HV.mk' m1 m2
        obtain ⟨ws6, hws⟩ : ∃ w', w' = w6.alloc (.cells #[.int .i64 RS.sc, .int .u64 (RS.ze : Int), .int .i64 RS.po, .slice a6 (uvals RS.pl).length q6, .int .i64 RS.no, .slice b6 (uvals RS.nl).length r6] 27) := ⟨_, rfl⟩
        rw [← hws] at hs hv
        have HS6 := Lib.hid hs
        have HV6 := Lib.hid hv
        have HWS6 := Lib.hid hws
        clear hs hv hws m1 m2
        have HK6 := Lib.hid (HK5.out.trans HS6.out)
        have HVA := Lib.hid (HVA.out.on HS6.out)
        have HVB := Lib.hid (HVB.out.on HS6.out)
        have HV4 := Lib.hid (HV4.out.on HS6.out)
        have HV5 := Lib.hid (HV5.out.on HS6.out)
        clear hva0 hva1 hva2 hva3 hva4 hva5 hvb0 hvb1 hvb2 hvb3 hvb4 hvb5
        go_upto_region 8 with fail
        rw [← HWS6.out]
        obtain ⟨hva0, hva1, hva2, hva3, hva4, hva5⟩ := HVA.out.box.c
        obtain ⟨hvb0, hvb1, hvb2, hvb3, hvb4, hvb5⟩ := HVB.out.box.c
        go_wp2_with fail
        refine (HU2.out _ HVA.out.at_ HVB.out.at_).mono ?_
        rintro e w7 ⟨R', E', hr, pv, nv, rfl, m1, m2⟩
        obtain ⟨rfl, rfl⟩ := HRS.out _ _ hr
        clear hr
        obtain ⟨a7, q7, rfl⟩ := m1.slice
        obtain ⟨b7, r7, rfl⟩ := m2.slice
        unfold histV
        dsimp only
        have hs := m1.kept.alloc (.cells #[.int .i64 RS.sc, .int .u64 (RS.ze : Int), .int .i64 RS.po, .slice a7 (uvals RS.pl).length q7, .int .i64 RS.no, .slice b7 (uvals RS.nl).length r7] 27)
        have hv := HV.mk' m1 m2
        obtain ⟨ws7, hws⟩ : ∃ w', w' = w7.alloc (.cells #[.int .i64 RS.sc, .int .u64 (RS.ze : Int), .int .i64 RS.po, .slice a7 (uvals RS.pl).length q7, .int .i64 RS.no, .slice b7 (uvals RS.nl).length r7] 27) := ⟨_, rfl⟩
        rw [← hws] at hs hv
        have HS7 := Lib.hid hs
        have HV7 := Lib.hid hv
        have HWS7 := Lib.hid hws
        clear hs hv hws m1 m2
        have HK7 := Lib.hid (HK6.out.trans HS7.out)
        have HVA := Lib.hid (HVA.out.on HS7.out)
        have HVB := Lib.hid (HVB.out.on HS7.out)
        have HV4 := Lib.hid (HV4.out.on HS7.out)
        have HV5 := Lib.hid (HV5.out.on HS7.out)
        have HV6 := Lib.hid (HV6.out.on HS7.out)
        clear hva0 hva1 hva2 hva3 hva4 hva5 hvb0 hvb1 hvb2 hvb3 hvb4 hvb5
        go_upto_region 9 with fail
        rw [← HWS7.out]
        have HD0 := Lib.hid ((Kept.refl (fun _ => False) ws7).drew)
        have HV4x := Lib.hid (HV4.out.on HD0.out)
        have HV5x := Lib.hid (HV5.out.on HD0.out)
        have HV6x := Lib.hid (HV6.out.on HD0.out)
        have HV7x := Lib.hid (HV7.out.on HD0.out)
        have HVAx := Lib.hid (HVA.out.on HD0.out)
        have HKx := Lib.hid (HK7.out.trans HD0.out)
        have HSS0 : Hid ((fun w' => (w'.cell? ⟨w4.heap.size, 0, none⟩ = some (.int .i64 RM.sc) ∧ w'.cell? ⟨w4.heap.size, 1, none⟩ = some (.int .u64 (RM.ze : Int)) ∧ w'.cell? ⟨w4.heap.size, 2, none⟩ = some (.int .i64 RM.po) ∧ w'.cell? ⟨w4.heap.size, 3, none⟩ = some (.slice a4 (uvals RM.pl).length q4) ∧ w'.cell? ⟨w4.heap.size, 4, none⟩ = some (.int .i64 RM.no) ∧ w'.cell? ⟨w4.heap.size, 5, none⟩ = some (.slice b4 (uvals RM.nl).length r4)) ∧ (w'.cell? ⟨w5.heap.size, 0, none⟩ = some (.int .i64 RM.sc) ∧ w'.cell? ⟨w5.heap.size, 1, none⟩ = some (.int .u64 (RM.ze : Int)) ∧ w'.cell? ⟨w5.heap.size, 2, none⟩ = some (.int .i64 RM.po) ∧ w'.cell? ⟨w5.heap.size, 3, none⟩ = some (.slice a5 (uvals RM.pl).length q5) ∧ w'.cell? ⟨w5.heap.size, 4, none⟩ = some (.int .i64 RM.no) ∧ w'.cell? ⟨w5.heap.size, 5, none⟩ = some (.slice b5 (uvals RM.nl).length r5)) ∧ (w'.cell? ⟨w6.heap.size, 0, none⟩ = some (.int .i64 RS.sc) ∧ w'.cell? ⟨w6.heap.size, 1, none⟩ = some (.int .u64 (RS.ze : Int)) ∧ w'.cell? ⟨w6.heap.size, 2, none⟩ = some (.int .i64 RS.po) ∧ w'.cell? ⟨w6.heap.size, 3, none⟩ = some (.slice a6 (uvals RS.pl).length q6) ∧ w'.cell? ⟨w6.heap.size, 4, none⟩ = some (.int .i64 RS.no) ∧ w'.cell? ⟨w6.heap.size, 5, none⟩ = some (.slice b6 (uvals RS.nl).length r6)) ∧ (w'.cell? ⟨w7.heap.size, 0, none⟩ = some (.int .i64 RS.sc) ∧ w'.cell? ⟨w7.heap.size, 1, none⟩ = some (.int .u64 (RS.ze : Int)) ∧ w'.cell? ⟨w7.heap.size, 2, none⟩ = some (.int .i64 RS.po) ∧ w'.cell? ⟨w7.heap.size, 3, none⟩ = some (.slice a7 (uvals RS.pl).length q7) ∧ w'.cell? ⟨w7.heap.size, 4, none⟩ = some (.int .i64 RS.no) ∧ w'.cell? ⟨w7.heap.size, 5, none⟩ = some (.slice b7 (uvals RS.nl).length r7)) ∧ (w'.cell? ⟨W.heap.size, 0, none⟩ = some (.int .i64 asc) ∧ w'.cell? ⟨W.heap.size, 1, none⟩ = some (.int .u64 (aze : Int)) ∧ w'.cell? ⟨W.heap.size, 2, none⟩ = some (.int .i64 apo) ∧ w'.cell? ⟨W.heap.size, 3, none⟩ = some (.slice ao apl.length c) ∧ w'.cell? ⟨W.heap.size, 4, none⟩ = some (.int .i64 ano) ∧ w'.cell? ⟨W.heap.size, 5, none⟩ = some (.slice a1 anl.length c1))) ws7.drew) := Lib.hid ⟨HV4x.out.box.c, HV5x.out.box.c, HV6x.out.box.c, HV7x.out.box.c, HVAx.out.box.c⟩
        skip
        refine AnyBut.start (S := fun w' => (w'.cell? ⟨w4.heap.size, 0, none⟩ = some (.int .i64 RM.sc) ∧ w'.cell? ⟨w4.heap.size, 1, none⟩ = some (.int .u64 (RM.ze : Int)) ∧ w'.cell? ⟨w4.heap.size, 2, none⟩ = some (.int .i64 RM.po) ∧ w'.cell? ⟨w4.heap.size, 3, none⟩ = some (.slice a4 (uvals RM.pl).length q4) ∧ w'.cell? ⟨w4.heap.size, 4, none⟩ = some (.int .i64 RM.no) ∧ w'.cell? ⟨w4.heap.size, 5, none⟩ = some (.slice b4 (uvals RM.nl).length r4)) ∧ (w'.cell? ⟨w5.heap.size, 0, none⟩ = some (.int .i64 RM.sc) ∧ w'.cell? ⟨w5.heap.size, 1, none⟩ = some (.int .u64 (RM.ze : Int)) ∧ w'.cell? ⟨w5.heap.size, 2, none⟩ = some (.int .i64 RM.po) ∧ w'.cell? ⟨w5.heap.size, 3, none⟩ = some (.slice a5 (uvals RM.pl).length q5) ∧ w'.cell? ⟨w5.heap.size, 4, none⟩ = some (.int .i64 RM.no) ∧ w'.cell? ⟨w5.heap.size, 5, none⟩ = some (.slice b5 (uvals RM.nl).length r5)) ∧ (w'.cell? ⟨w6.heap.size, 0, none⟩ = some (.int .i64 RS.sc) ∧ w'.cell? ⟨w6.heap.size, 1, none⟩ = some (.int .u64 (RS.ze : Int)) ∧ w'.cell? ⟨w6.heap.size, 2, none⟩ = some (.int .i64 RS.po) ∧ w'.cell? ⟨w6.heap.size, 3, none⟩ = some (.slice a6 (uvals RS.pl).length q6) ∧ w'.cell? ⟨w6.heap.size, 4, none⟩ = some (.int .i64 RS.no) ∧ w'.cell? ⟨w6.heap.size, 5, none⟩ = some (.slice b6 (uvals RS.nl).length r6)) ∧ (w'.cell? ⟨w7.heap.size, 0, none⟩ = some (.int .i64 RS.sc) ∧ w'.cell? ⟨w7.heap.size, 1, none⟩ = some (.int .u64 (RS.ze : Int)) ∧ w'.cell? ⟨w7.heap.size, 2, none⟩ = some (.int .i64 RS.po) ∧ w'.cell? ⟨w7.heap.size, 3, none⟩ = some (.slice a7 (uvals RS.pl).length q7) ∧ w'.cell? ⟨w7.heap.size, 4, none⟩ = some (.int .i64 RS.no) ∧ w'.cell? ⟨w7.heap.size, 5, none⟩ = some (.slice b7 (uvals RS.nl).length r7)) ∧ (w'.cell? ⟨W.heap.size, 0, none⟩ = some (.int .i64 asc) ∧ w'.cell? ⟨W.heap.size, 1, none⟩ = some (.int .u64 (aze : Int)) ∧ w'.cell? ⟨W.heap.size, 2, none⟩ = some (.int .i64 apo) ∧ w'.cell? ⟨W.heap.size, 3, none⟩ = some (.slice ao apl.length c) ∧ w'.cell? ⟨W.heap.size, 4, none⟩ = some (.int .i64 ano) ∧ w'.cell? ⟨W.heap.size, 5, none⟩ = some (.slice a1 anl.length c1))) (k := 41) (by kernel_rfl) ?_
        refine AnyBut.takeS (i := 0) (v := ?v115) rfl (by kernel_rfl) (Nat.le_of_eq (by kernel_rfl)) (by kernel_rfl) (by kernel_rfl) (fun _ _ _ h => h) (HSS0.out) (Or.inl ⟨by kernel_rfl, ?hy115⟩) ?r115
        case hy115 =>
          intro w hSw
          try dsimp only at hSw
          go_simp
          try with_reducible rfl
        try simp only [Act.put, List.getElem_toArray, List.getElem_cons_zero, List.setIfInBounds_toArray, List.set_cons_zero, List.set_cons_succ]
        refine AnyBut.takeS (i := 1) (v := ?v116) rfl (by kernel_rfl) (Nat.le_of_eq (by kernel_rfl)) (by kernel_rfl) (by kernel_rfl) (fun _ _ _ h => h) (HSS0.out) (Or.inl ⟨by kernel_rfl, ?hy116⟩) ?r116
        case hy116 =>
          intro w hSw
          try dsimp only at hSw
          go_simp
          try with_reducible rfl
        try simp only [Act.put, List.getElem_toArray, List.getElem_cons_succ, List.getElem_cons_zero, List.setIfInBounds_toArray, List.set_cons_zero, List.set_cons_succ]
        refine AnyBut.one (i := 2) (by kernel_rfl) rfl (fun K hK => ?_)
        go_simp
        go_wp2_with fail
        refine (HSM.out _ _ _ _ _ HV4x.out.at_ HV5x.out.at_).mono ?_
        rintro e w8 ⟨rfl, k8⟩
        have HS8 := Lib.hid k8
        clear k8
        have HKy := Lib.hid (HKx.out.trans HS8.out)
        have HV4y := Lib.hid (HV4x.out.on HS8.out)
        have HV5y := Lib.hid (HV5x.out.on HS8.out)
        have HV6y := Lib.hid (HV6x.out.on HS8.out)
        have HV7y := Lib.hid (HV7x.out.on HS8.out)
        have HVAy := Lib.hid (HVAx.out.on HS8.out)
        have HSS8 : Hid ((fun w' => (w'.cell? ⟨w4.heap.size, 0, none⟩ = some (.int .i64 RM.sc) ∧ w'.cell? ⟨w4.heap.size, 1, none⟩ = some (.int .u64 (RM.ze : Int)) ∧ w'.cell? ⟨w4.heap.size, 2, none⟩ = some (.int .i64 RM.po) ∧ w'.cell? ⟨w4.heap.size, 3, none⟩ = some (.slice a4 (uvals RM.pl).length q4) ∧ w'.cell? ⟨w4.heap.size, 4, none⟩ = some (.int .i64 RM.no) ∧ w'.cell? ⟨w4.heap.size, 5, none⟩ = some (.slice b4 (uvals RM.nl).length r4)) ∧ (w'.cell? ⟨w5.heap.size, 0, none⟩ = some (.int .i64 RM.sc) ∧ w'.cell? ⟨w5.heap.size, 1, none⟩ = some (.int .u64 (RM.ze : Int)) ∧ w'.cell? ⟨w5.heap.size, 2, none⟩ = some (.int .i64 RM.po) ∧ w'.cell? ⟨w5.heap.size, 3, none⟩ = some (.slice a5 (uvals RM.pl).length q5) ∧ w'.cell? ⟨w5.heap.size, 4, none⟩ = some (.int .i64 RM.no) ∧ w'.cell? ⟨w5.heap.size, 5, none⟩ = some (.slice b5 (uvals RM.nl).length r5)) ∧ (w'.cell? ⟨w6.heap.size, 0, none⟩ = some (.int .i64 RS.sc) ∧ w'.cell? ⟨w6.heap.size, 1, none⟩ = some (.int .u64 (RS.ze : Int)) ∧ w'.cell? ⟨w6.heap.size, 2, none⟩ = some (.int .i64 RS.po) ∧ w'.cell? ⟨w6.heap.size, 3, none⟩ = some (.slice a6 (uvals RS.pl).length q6) ∧ w'.cell? ⟨w6.heap.size, 4, none⟩ = some (.int .i64 RS.no) ∧ w'.cell? ⟨w6.heap.size, 5, none⟩ = some (.slice b6 (uvals RS.nl).length r6)) ∧ (w'.cell? ⟨w7.heap.size, 0, none⟩ = some (.int .i64 RS.sc) ∧ w'.cell? ⟨w7.heap.size, 1, none⟩ = some (.int .u64 (RS.ze : Int)) ∧ w'.cell? ⟨w7.heap.size, 2, none⟩ = some (.int .i64 RS.po) ∧ w'.cell? ⟨w7.heap.size, 3, none⟩ = some (.slice a7 (uvals RS.pl).length q7) ∧ w'.cell? ⟨w7.heap.size, 4, none⟩ = some (.int .i64 RS.no) ∧ w'.cell? ⟨w7.heap.size, 5, none⟩ = some (.slice b7 (uvals RS.nl).length r7)) ∧ (w'.cell? ⟨W.heap.size, 0, none⟩ = some (.int .i64 asc) ∧ w'.cell? ⟨W.heap.size, 1, none⟩ = some (.int .u64 (aze : Int)) ∧ w'.cell? ⟨W.heap.size, 2, none⟩ = some (.int .i64 apo) ∧ w'.cell? ⟨W.heap.size, 3, none⟩ = some (.slice ao apl.length c) ∧ w'.cell? ⟨W.heap.size, 4, none⟩ = some (.int .i64 ano) ∧ w'.cell? ⟨W.heap.size, 5, none⟩ = some (.slice a1 anl.length c1))) w8) := Lib.hid ⟨HV4y.out.box.c, HV5y.out.box.c, HV6y.out.box.c, HV7y.out.box.c, HVAy.out.box.c⟩
        go_wp2
        refine hK.out _ _ (HSS8.out) ?_
        clear hK K
        try simp only [Act.put, List.getElem_toArray, List.getElem_cons_succ, List.getElem_cons_zero, List.setIfInBounds_toArray, List.set_cons_zero, List.set_cons_succ]
        refine AnyBut.takeS (i := 3) (v := ?v117) rfl (by kernel_rfl) (Nat.le_of_eq (by kernel_rfl)) (by kernel_rfl) (by kernel_rfl) (fun _ _ _ h => h) (HSS8.out) (Or.inl ⟨by kernel_rfl, ?hy117⟩) ?r117
        case hy117 =>
          intro w hSw
          try dsimp only at hSw
          go_simp
          try with_reducible rfl
        try simp only [Act.put, List.getElem_toArray, List.getElem_cons_succ, List.getElem_cons_zero, List.setIfInBounds_toArray, List.set_cons_zero, List.set_cons_succ]
        refine AnyBut.takeS (i := 4) (v := ?v118) rfl (by kernel_rfl) (Nat.le_of_eq (by kernel_rfl)) (by kernel_rfl) (by kernel_rfl) (fun _ _ _ h => h) (HSS8.out) (Or.inl ⟨by kernel_rfl, ?hy118⟩) ?r118
        case hy118 =>
          intro w hSw
          try dsimp only at hSw
          go_simp
          try with_reducible rfl
        try simp only [Act.put, List.getElem_toArray, List.getElem_cons_succ, List.getElem_cons_zero, List.setIfInBounds_toArray, List.set_cons_zero, List.set_cons_succ]
        refine AnyBut.takeS (i := 5) (v := ?v119) rfl (by kernel_rfl) (Nat.le_of_eq (by kernel_rfl)) (by kernel_rfl) (by kernel_rfl) (fun _ _ _ h => h) (HSS8.out) (Or.inl ⟨by kernel_rfl, ?hy119⟩) ?r119
        case hy119 =>
          intro w hSw
          try dsimp only at hSw
          go_simp
          try with_reducible rfl
        try simp only [Act.put, List.getElem_toArray, List.getElem_cons_succ, List.getElem_cons_zero, List.setIfInBounds_toArray, List.set_cons_zero, List.set_cons_succ]
        refine AnyBut.takeS (i := 6) (v := ?v120) rfl (by kernel_rfl) (Nat.le_of_eq (by kernel_rfl)) (by kernel_rfl) (by kernel_rfl) (fun _ _ _ h => h) (HSS8.out) (Or.inl ⟨by kernel_rfl, ?hy120⟩) ?r120
        case hy120 =>
          intro w hSw
          try dsimp only at hSw
          go_simp
          try with_reducible rfl
        try simp only [Act.put, List.getElem_toArray, List.getElem_cons_succ, List.getElem_cons_zero, List.setIfInBounds_toArray, List.set_cons_zero, List.set_cons_succ]
        refine AnyBut.takeS (i := 7) (v := ?v121) rfl (by kernel_rfl) (Nat.le_of_eq (by kernel_rfl)) (by kernel_rfl) (by kernel_rfl) (fun _ _ _ h => h) (HSS8.out) (Or.inl ⟨by kernel_rfl, ?hy121⟩) ?r121
        case hy121 =>
          intro w hSw
          try dsimp only at hSw
          go_simp
          try with_reducible rfl
        try simp only [Act.put, List.getElem_toArray, List.getElem_cons_succ, List.getElem_cons_zero, List.setIfInBounds_toArray, List.set_cons_zero, List.set_cons_succ]
        refine AnyBut.takeS (i := 8) (v := ?v122) rfl (by kernel_rfl) (Nat.le_of_eq (by kernel_rfl)) (by kernel_rfl) (by kernel_rfl) (fun _ _ _ h => h) (HSS8.out) (Or.inl ⟨by kernel_rfl, ?hy122⟩) ?r122
        case hy122 =>
          intro w hSw
          try dsimp only at hSw
          go_simp
          try with_reducible rfl
        try simp only [Act.put, List.getElem_toArray, List.getElem_cons_succ, List.getElem_cons_zero, List.setIfInBounds_toArray, List.set_cons_zero, List.set_cons_succ]
        refine AnyBut.takeS (i := 9) (v := ?v123) rfl (by kernel_rfl) (Nat.le_of_eq (by kernel_rfl)) (by kernel_rfl) (by kernel_rfl) (fun _ _ _ h => h) (HSS8.out) (Or.inl ⟨by kernel_rfl, ?hy123⟩) ?r123
        case hy123 =>
          intro w hSw
          try dsimp only at hSw
          go_simp
          try with_reducible rfl
        try simp only [Act.put, List.getElem_toArray, List.getElem_cons_succ, List.getElem_cons_zero, List.setIfInBounds_toArray, List.set_cons_zero, List.set_cons_succ]
        refine AnyBut.takeS (i := 10) (v := ?v124) rfl (by kernel_rfl) (Nat.le_of_eq (by kernel_rfl)) (by kernel_rfl) (by kernel_rfl) (fun _ _ _ h => h) (HSS8.out) (Or.inl ⟨by kernel_rfl, ?hy124⟩) ?r124
        case hy124 =>
          intro w hSw
          try dsimp only at hSw
          go_simp
          try with_reducible rfl
        try simp only [Act.put, List.getElem_toArray, List.getElem_cons_succ, List.getElem_cons_zero, List.setIfInBounds_toArray, List.set_cons_zero, List.set_cons_succ]
        refine AnyBut.one (i := 11) (by kernel_rfl) rfl (fun K hK => ?_)
        go_simp
        go_wp2_with fail
        refine (HSS.out _ _ _ _ _ HV6y.out.at_ HV7y.out.at_).mono ?_
        rintro e w9 ⟨rfl, k9⟩
        have HS9 := Lib.hid k9
        clear k9
        have HKz := Lib.hid (HKy.out.trans HS9.out)
        have HV4z := Lib.hid (HV4y.out.on HS9.out)
        have HV5z := Lib.hid (HV5y.out.on HS9.out)
        have HV6z := Lib.hid (HV6y.out.on HS9.out)
        have HV7z := Lib.hid (HV7y.out.on HS9.out)
        have HVAz := Lib.hid (HVAy.out.on HS9.out)
        have HSS9 : Hid ((fun w' => (w'.cell? ⟨w4.heap.size, 0, none⟩ = some (.int .i64 RM.sc) ∧ w'.cell? ⟨w4.heap.size, 1, none⟩ = some (.int .u64 (RM.ze : Int)) ∧ w'.cell? ⟨w4.heap.size, 2, none⟩ = some (.int .i64 RM.po) ∧ w'.cell? ⟨w4.heap.size, 3, none⟩ = some (.slice a4 (uvals RM.pl).length q4) ∧ w'.cell? ⟨w4.heap.size, 4, none⟩ = some (.int .i64 RM.no) ∧ w'.cell? ⟨w4.heap.size, 5, none⟩ = some (.slice b4 (uvals RM.nl).length r4)) ∧ (w'.cell? ⟨w5.heap.size, 0, none⟩ = some (.int .i64 RM.sc) ∧ w'.cell? ⟨w5.heap.size, 1, none⟩ = some (.int .u64 (RM.ze : Int)) ∧ w'.cell? ⟨w5.heap.size, 2, none⟩ = some (.int .i64 RM.po) ∧ w'.cell? ⟨w5.heap.size, 3, none⟩ = some (.slice a5 (uvals RM.pl).length q5) ∧ w'.cell? ⟨w5.heap.size, 4, none⟩ = some (.int .i64 RM.no) ∧ w'.cell? ⟨w5.heap.size, 5, none⟩ = some (.slice b5 (uvals RM.nl).length r5)) ∧ (w'.cell? ⟨w6.heap.size, 0, none⟩ = some (.int .i64 RS.sc) ∧ w'.cell? ⟨w6.heap.size, 1, none⟩ = some (.int .u64 (RS.ze : Int)) ∧ w'.cell? ⟨w6.heap.size, 2, none⟩ = some (.int .i64 RS.po) ∧ w'.cell? ⟨w6.heap.size, 3, none⟩ = some (.slice a6 (uvals RS.pl).length q6) ∧ w'.cell? ⟨w6.heap.size, 4, none⟩ = some (.int .i64 RS.no) ∧ w'.cell? ⟨w6.heap.size, 5, none⟩ = some (.slice b6 (uvals RS.nl).length r6)) ∧ (w'.cell? ⟨w7.heap.size, 0, none⟩ = some (.int .i64 RS.sc) ∧ w'.cell? ⟨w7.heap.size, 1, none⟩ = some (.int .u64 (RS.ze : Int)) ∧ w'.cell? ⟨w7.heap.size, 2, none⟩ = some (.int .i64 RS.po) ∧ w'.cell? ⟨w7.heap.size, 3, none⟩ = some (.slice a7 (uvals RS.pl).length q7) ∧ w'.cell? ⟨w7.heap.size, 4, none⟩ = some (.int .i64 RS.no) ∧ w'.cell? ⟨w7.heap.size, 5, none⟩ = some (.slice b7 (uvals RS.nl).length r7)) ∧ (w'.cell? ⟨W.heap.size, 0, none⟩ = some (.int .i64 asc) ∧ w'.cell? ⟨W.heap.size, 1, none⟩ = some (.int .u64 (aze : Int)) ∧ w'.cell? ⟨W.heap.size, 2, none⟩ = some (.int .i64 apo) ∧ w'.cell? ⟨W.heap.size, 3, none⟩ = some (.slice ao apl.length c) ∧ w'.cell? ⟨W.heap.size, 4, none⟩ = some (.int .i64 ano) ∧ w'.cell? ⟨W.heap.size, 5, none⟩ = some (.slice a1 anl.length c1))) w9) := Lib.hid ⟨HV4z.out.box.c, HV5z.out.box.c, HV6z.out.box.c, HV7z.out.box.c, HVAz.out.box.c⟩
        go_wp2
        refine hK.out _ _ (HSS9.out) ?_
        clear hK K
        try simp only [Act.put, List.getElem_toArray, List.getElem_cons_succ, List.getElem_cons_zero, List.setIfInBounds_toArray, List.set_cons_zero, List.set_cons_succ]
        refine AnyBut.takeS (i := 12) (v := ?v125) rfl (by kernel_rfl) (Nat.le_of_eq (by kernel_rfl)) (by kernel_rfl) (by kernel_rfl) (fun _ _ _ h => h) (HSS9.out) (Or.inl ⟨by kernel_rfl, ?hy125⟩) ?r125
        case hy125 =>
          intro w hSw
          try dsimp only at hSw
          go_simp
          try with_reducible rfl
        try simp only [Act.put, List.getElem_toArray, List.getElem_cons_succ, List.getElem_cons_zero, List.setIfInBounds_toArray, List.set_cons_zero, List.set_cons_succ]
        refine AnyBut.takeS (i := 13) (v := ?v126) rfl (by kernel_rfl) (Nat.le_of_eq (by kernel_rfl)) (by kernel_rfl) (by kernel_rfl) (fun _ _ _ h => h) (HSS9.out) (Or.inl ⟨by kernel_rfl, ?hy126⟩) ?r126
        case hy126 =>
          intro w hSw
          try dsimp only at hSw
          go_simp
          try with_reducible rfl
        try simp only [Act.put, List.getElem_toArray, List.getElem_cons_succ, List.getElem_cons_zero, List.setIfInBounds_toArray, List.set_cons_zero, List.set_cons_succ]
        refine AnyBut.takeS (i := 14) (v := ?v127) rfl (by kernel_rfl) (Nat.le_of_eq (by kernel_rfl)) (by kernel_rfl) (by kernel_rfl) (fun _ _ _ h => h) (HSS9.out) (Or.inl ⟨by kernel_rfl, ?hy127⟩) ?r127
        case hy127 =>
          intro w hSw
          try dsimp only at hSw
          go_simp
          try with_reducible rfl
        try simp only [Act.put, List.getElem_toArray, List.getElem_cons_succ, List.getElem_cons_zero, List.setIfInBounds_toArray, List.set_cons_zero, List.set_cons_succ]
        refine AnyBut.takeS (i := 15) (v := ?v128) rfl (by kernel_rfl) (Nat.le_of_eq (by kernel_rfl)) (by kernel_rfl) (by kernel_rfl) (fun _ _ _ h => h) (HSS9.out) (Or.inl ⟨by kernel_rfl, ?hy128⟩) ?r128
        case hy128 =>
          intro w hSw
          try dsimp only at hSw
          go_simp
          try with_reducible rfl
        try simp only [Act.put, List.getElem_toArray, List.getElem_cons_succ, List.getElem_cons_zero, List.setIfInBounds_toArray, List.set_cons_zero, List.set_cons_succ]
        refine AnyBut.takeS (i := 16) (v := ?v129) rfl (by kernel_rfl) (Nat.le_of_eq (by kernel_rfl)) (by kernel_rfl) (by kernel_rfl) (fun _ _ _ h => h) (HSS9.out) (Or.inl ⟨by kernel_rfl, ?hy129⟩) ?r129
        case hy129 =>
          intro w hSw
          try dsimp only at hSw
          go_simp
          try with_reducible rfl
        try simp only [Act.put, List.getElem_toArray, List.getElem_cons_succ, List.getElem_cons_zero, List.setIfInBounds_toArray, List.set_cons_zero, List.set_cons_succ]
        refine AnyBut.takeS (i := 17) (v := ?v130) rfl (by kernel_rfl) (Nat.le_of_eq (by kernel_rfl)) (by kernel_rfl) (by kernel_rfl) (fun _ _ _ h => h) (HSS9.out) (Or.inl ⟨by kernel_rfl, ?hy130⟩) ?r130
        case hy130 =>
          intro w hSw
          try dsimp only at hSw
          go_simp
          try with_reducible rfl
        try simp only [Act.put, List.getElem_toArray, List.getElem_cons_succ, List.getElem_cons_zero, List.setIfInBounds_toArray, List.set_cons_zero, List.set_cons_succ]
        refine AnyBut.takeS (i := 18) (v := ?v131) rfl (by kernel_rfl) (Nat.le_of_eq (by kernel_rfl)) (by kernel_rfl) (by kernel_rfl) (fun _ _ _ h => h) (HSS9.out) (Or.inl ⟨by kernel_rfl, ?hy131⟩) ?r131
        case hy131 =>
          intro w hSw
          try dsimp only at hSw
          go_simp
          try with_reducible rfl
        try simp only [Act.put, List.getElem_toArray, List.getElem_cons_succ, List.getElem_cons_zero, List.setIfInBounds_toArray, List.set_cons_zero, List.set_cons_succ]
        refine AnyBut.takeS (i := 19) (v := ?v132) rfl (by kernel_rfl) (Nat.le_of_eq (by kernel_rfl)) (by kernel_rfl) (by kernel_rfl) (fun _ _ _ h => h) (HSS9.out) (Or.inl ⟨by kernel_rfl, ?hy132⟩) ?r132
        case hy132 =>
          intro w hSw
          try dsimp only at hSw
          go_simp
          try with_reducible rfl
        try simp only [Act.put, List.getElem_toArray, List.getElem_cons_succ, List.getElem_cons_zero, List.setIfInBounds_toArray, List.set_cons_zero, List.set_cons_succ]
        refine AnyBut.takeS (i := 21) (v := ?v133) rfl (by kernel_rfl) (Nat.le_of_eq (by kernel_rfl)) (by kernel_rfl) (by kernel_rfl) (fun _ _ _ h => h) (HSS9.out) (Or.inl ⟨by kernel_rfl, ?hy133⟩) ?r133
        case hy133 =>
          intro w hSw
          try dsimp only at hSw
          go_simp
          try with_reducible rfl
        try simp only [Act.put, List.getElem_toArray, List.getElem_cons_succ, List.getElem_cons_zero, List.setIfInBounds_toArray, List.set_cons_zero, List.set_cons_succ]
        refine AnyBut.takeS (i := 22) (v := ?v134) rfl (by kernel_rfl) (Nat.le_of_eq (by kernel_rfl)) (by kernel_rfl) (by kernel_rfl) (fun _ _ _ h => h) (HSS9.out) (Or.inl ⟨by kernel_rfl, ?hy134⟩) ?r134
        case hy134 =>
          intro w hSw
          try dsimp only at hSw
          go_simp
          try with_reducible rfl
        try simp only [Act.put, List.getElem_toArray, List.getElem_cons_succ, List.getElem_cons_zero, List.setIfInBounds_toArray, List.set_cons_zero, List.set_cons_succ]
        refine AnyBut.takeS (i := 23) (v := ?v135) rfl (by kernel_rfl) (Nat.le_of_eq (by kernel_rfl)) (by kernel_rfl) (by kernel_rfl) (fun _ _ _ h => h) (HSS9.out) (Or.inl ⟨by kernel_rfl, ?hy135⟩) ?r135
        case hy135 =>
          intro w hSw
          try dsimp only at hSw
          go_simp
          try with_reducible rfl
        try simp only [Act.put, List.getElem_toArray, List.getElem_cons_succ, List.getElem_cons_zero, List.setIfInBounds_toArray, List.set_cons_zero, List.set_cons_succ]
        refine AnyBut.one (i := 20) (by kernel_rfl) rfl (fun K hK => ?_)
        go_simp
        go_wp2_with fail
        refine (HEM.out _ HVAz.out.at_).mono ?_
        rintro e w10 ⟨rfl, k10⟩
        have HS10 := Lib.hid k10
        clear k10
        have HKu := Lib.hid (HKz.out.trans HS10.out)
        have HV4u := Lib.hid (HV4z.out.on HS10.out)
        have HV5u := Lib.hid (HV5z.out.on HS10.out)
        have HV6u := Lib.hid (HV6z.out.on HS10.out)
        have HV7u := Lib.hid (HV7z.out.on HS10.out)
        have HVAu := Lib.hid (HVAz.out.on HS10.out)
        have HSS10 : Hid ((fun w' => (w'.cell? ⟨w4.heap.size, 0, none⟩ = some (.int .i64 RM.sc) ∧ w'.cell? ⟨w4.heap.size, 1, none⟩ = some (.int .u64 (RM.ze : Int)) ∧ w'.cell? ⟨w4.heap.size, 2, none⟩ = some (.int .i64 RM.po) ∧ w'.cell? ⟨w4.heap.size, 3, none⟩ = some (.slice a4 (uvals RM.pl).length q4) ∧ w'.cell? ⟨w4.heap.size, 4, none⟩ = some (.int .i64 RM.no) ∧ w'.cell? ⟨w4.heap.size, 5, none⟩ = some (.slice b4 (uvals RM.nl).length r4)) ∧ (w'.cell? ⟨w5.heap.size, 0, none⟩ = some (.int .i64 RM.sc) ∧ w'.cell? ⟨w5.heap.size, 1, none⟩ = some (.int .u64 (RM.ze : Int)) ∧ w'.cell? ⟨w5.heap.size, 2, none⟩ = some (.int .i64 RM.po) ∧ w'.cell? ⟨w5.heap.size, 3, none⟩ = some (.slice a5 (uvals RM.pl).length q5) ∧ w'.cell? ⟨w5.heap.size, 4, none⟩ = some (.int .i64 RM.no) ∧ w'.cell? ⟨w5.heap.size, 5, none⟩ = some (.slice b5 (uvals RM.nl).length r5)) ∧ (w'.cell? ⟨w6.heap.size, 0, none⟩ = some (.int .i64 RS.sc) ∧ w'.cell? ⟨w6.heap.size, 1, none⟩ = some (.int .u64 (RS.ze : Int)) ∧ w'.cell? ⟨w6.heap.size, 2, none⟩ = some (.int .i64 RS.po) ∧ w'.cell? ⟨w6.heap.size, 3, none⟩ = some (.slice a6 (uvals RS.pl).length q6) ∧ w'.cell? ⟨w6.heap.size, 4, none⟩ = some (.int .i64 RS.no) ∧ w'.cell? ⟨w6.heap.size, 5, none⟩ = some (.slice b6 (uvals RS.nl).length r6)) ∧ (w'.cell? ⟨w7.heap.size, 0, none⟩ = some (.int .i64 RS.sc) ∧ w'.cell? ⟨w7.heap.size, 1, none⟩ = some (.int .u64 (RS.ze : Int)) ∧ w'.cell? ⟨w7.heap.size, 2, none⟩ = some (.int .i64 RS.po) ∧ w'.cell? ⟨w7.heap.size, 3, none⟩ = some (.slice a7 (uvals RS.pl).length q7) ∧ w'.cell? ⟨w7.heap.size, 4, none⟩ = some (.int .i64 RS.no) ∧ w'.cell? ⟨w7.heap.size, 5, none⟩ = some (.slice b7 (uvals RS.nl).length r7)) ∧ (w'.cell? ⟨W.heap.size, 0, none⟩ = some (.int .i64 asc) ∧ w'.cell? ⟨W.heap.size, 1, none⟩ = some (.int .u64 (aze : Int)) ∧ w'.cell? ⟨W.heap.size, 2, none⟩ = some (.int .i64 apo) ∧ w'.cell? ⟨W.heap.size, 3, none⟩ = some (.slice ao apl.length c) ∧ w'.cell? ⟨W.heap.size, 4, none⟩ = some (.int .i64 ano) ∧ w'.cell? ⟨W.heap.size, 5, none⟩ = some (.slice a1 anl.length c1))) w10) := Lib.hid ⟨HV4u.out.box.c, HV5u.out.box.c, HV6u.out.box.c, HV7u.out.box.c, HVAu.out.box.c⟩
        go_wp2
        refine hK.out _ _ (HSS10.out) ?_
        clear hK K
        try simp only [Act.put, List.getElem_toArray, List.getElem_cons_succ, List.getElem_cons_zero, List.setIfInBounds_toArray, List.set_cons_zero, List.set_cons_succ]
        refine AnyBut.takeS (i := 24) (v := ?v136) rfl (by kernel_rfl) (Nat.le_of_eq (by kernel_rfl)) (by kernel_rfl) (by kernel_rfl) (fun _ _ _ h => h) (HSS10.out) (Or.inl ⟨by kernel_rfl, ?hy136⟩) ?r136
        case hy136 =>
          intro w hSw
          try dsimp only at hSw
          go_simp
          try with_reducible rfl
        try simp only [Act.put, List.getElem_toArray, List.getElem_cons_succ, List.getElem_cons_zero, List.setIfInBounds_toArray, List.set_cons_zero, List.set_cons_succ]
        refine AnyBut.takeS (i := 25) (v := undef) rfl (by kernel_rfl) (Nat.le_of_eq (by kernel_rfl)) (by kernel_rfl) (by kernel_rfl) (fun _ _ _ h => h) (HSS10.out) (Or.inr ⟨by kernel_rfl, rfl⟩) ?r137
        try simp only [Act.put, List.getElem_toArray, List.getElem_cons_succ, List.getElem_cons_zero, List.setIfInBounds_toArray, List.set_cons_zero, List.set_cons_succ]
        refine AnyBut.takeS (i := 26) (v := undef) rfl (by kernel_rfl) (Nat.le_of_eq (by kernel_rfl)) (by kernel_rfl) (by kernel_rfl) (fun _ _ _ h => h) (HSS10.out) (Or.inr ⟨by kernel_rfl, rfl⟩) ?r138
        try simp only [Act.put, List.getElem_toArray, List.getElem_cons_succ, List.getElem_cons_zero, List.setIfInBounds_toArray, List.set_cons_zero, List.set_cons_succ]
        refine AnyBut.takeS (i := 27) (v := undef) rfl (by kernel_rfl) (Nat.le_of_eq (by kernel_rfl)) (by kernel_rfl) (by kernel_rfl) (fun _ _ _ h => h) (HSS10.out) (Or.inr ⟨by kernel_rfl, rfl⟩) ?r139
        try simp only [Act.put, List.getElem_toArray, List.getElem_cons_succ, List.getElem_cons_zero, List.setIfInBounds_toArray, List.set_cons_zero, List.set_cons_succ]
        refine AnyBut.takeS (i := 28) (v := undef) rfl (by kernel_rfl) (Nat.le_of_eq (by kernel_rfl)) (by kernel_rfl) (by kernel_rfl) (fun _ _ _ h => h) (HSS10.out) (Or.inr ⟨by kernel_rfl, rfl⟩) ?r140
        try simp only [Act.put, List.getElem_toArray, List.getElem_cons_succ, List.getElem_cons_zero, List.setIfInBounds_toArray, List.set_cons_zero, List.set_cons_succ]
        refine AnyBut.takeS (i := 29) (v := undef) rfl (by kernel_rfl) (Nat.le_of_eq (by kernel_rfl)) (by kernel_rfl) (by kernel_rfl) (fun _ _ _ h => h) (HSS10.out) (Or.inr ⟨by kernel_rfl, rfl⟩) ?r141
        try simp only [Act.put, List.getElem_toArray, List.getElem_cons_succ, List.getElem_cons_zero, List.setIfInBounds_toArray, List.set_cons_zero, List.set_cons_succ]
        refine AnyBut.takeS (i := 30) (v := ?v142) rfl (by kernel_rfl) (Nat.le_of_eq (by kernel_rfl)) (by kernel_rfl) (by kernel_rfl) (fun _ _ _ h => h) (HSS10.out) (Or.inl ⟨by kernel_rfl, ?hy142⟩) ?r142
        case hy142 =>
          intro w hSw
          try dsimp only at hSw
          go_simp
          try with_reducible rfl
        try simp only [Act.put, List.getElem_toArray, List.getElem_cons_succ, List.getElem_cons_zero, List.setIfInBounds_toArray, List.set_cons_zero, List.set_cons_succ]
        refine AnyBut.takeS (i := 31) (v := ?v143) rfl (by kernel_rfl) (Nat.le_of_eq (by kernel_rfl)) (by kernel_rfl) (by kernel_rfl) (fun _ _ _ h => h) (HSS10.out) (Or.inl ⟨by kernel_rfl, ?hy143⟩) ?r143
        case hy143 =>
          intro w hSw
          try dsimp only at hSw
          go_simp
          try with_reducible rfl
        try simp only [Act.put, List.getElem_toArray, List.getElem_cons_succ, List.getElem_cons_zero, List.setIfInBounds_toArray, List.set_cons_zero, List.set_cons_succ]
        refine AnyBut.takeS (i := 32) (v := undef) rfl (by kernel_rfl) (Nat.le_of_eq (by kernel_rfl)) (by kernel_rfl) (by kernel_rfl) (fun _ _ _ h => h) (HSS10.out) (Or.inr ⟨by kernel_rfl, rfl⟩) ?r144
        try simp only [Act.put, List.getElem_toArray, List.getElem_cons_succ, List.getElem_cons_zero, List.setIfInBounds_toArray, List.set_cons_zero, List.set_cons_succ]
        refine AnyBut.takeS (i := 33) (v := undef) rfl (by kernel_rfl) (Nat.le_of_eq (by kernel_rfl)) (by kernel_rfl) (by kernel_rfl) (fun _ _ _ h => h) (HSS10.out) (Or.inr ⟨by kernel_rfl, rfl⟩) ?r145
        try simp only [Act.put, List.getElem_toArray, List.getElem_cons_succ, List.getElem_cons_zero, List.setIfInBounds_toArray, List.set_cons_zero, List.set_cons_succ]
        refine AnyBut.takeS (i := 34) (v := undef) rfl (by kernel_rfl) (Nat.le_of_eq (by kernel_rfl)) (by kernel_rfl) (by kernel_rfl) (fun _ _ _ h => h) (HSS10.out) (Or.inr ⟨by kernel_rfl, rfl⟩) ?r146
        try simp only [Act.put, List.getElem_toArray, List.getElem_cons_succ, List.getElem_cons_zero, List.setIfInBounds_toArray, List.set_cons_zero, List.set_cons_succ]
        refine AnyBut.takeS (i := 35) (v := undef) rfl (by kernel_rfl) (Nat.le_of_eq (by kernel_rfl)) (by kernel_rfl) (by kernel_rfl) (fun _ _ _ h => h) (HSS10.out) (Or.inr ⟨by kernel_rfl, rfl⟩) ?r147
        try simp only [Act.put, List.getElem_toArray, List.getElem_cons_succ, List.getElem_cons_zero, List.setIfInBounds_toArray, List.set_cons_zero, List.set_cons_succ]
        refine AnyBut.takeS (i := 36) (v := undef) rfl (by kernel_rfl) (Nat.le_of_eq (by kernel_rfl)) (by kernel_rfl) (by kernel_rfl) (fun _ _ _ h => h) (HSS10.out) (Or.inr ⟨by kernel_rfl, rfl⟩) ?r148
        try simp only [Act.put, List.getElem_toArray, List.getElem_cons_succ, List.getElem_cons_zero, List.setIfInBounds_toArray, List.set_cons_zero, List.set_cons_succ]
        refine AnyBut.takeS (i := 37) (v := ?v149) rfl (by kernel_rfl) (Nat.le_of_eq (by kernel_rfl)) (by kernel_rfl) (by kernel_rfl) (fun _ _ _ h => h) (HSS10.out) (Or.inl ⟨by kernel_rfl, ?hy149⟩) ?r149
        case hy149 =>
          intro w hSw
          try dsimp only at hSw
          go_simp
          try with_reducible rfl
        try simp only [Act.put, List.getElem_toArray, List.getElem_cons_succ, List.getElem_cons_zero, List.setIfInBounds_toArray, List.set_cons_zero, List.set_cons_succ]
        refine AnyBut.takeS (i := 38) (v := ?v150) rfl (by kernel_rfl) (Nat.le_of_eq (by kernel_rfl)) (by kernel_rfl) (by kernel_rfl) (fun _ _ _ h => h) (HSS10.out) (Or.inl ⟨by kernel_rfl, ?hy150⟩) ?r150
        case hy150 =>
          intro w hSw
          try dsimp only at hSw
          go_simp
          try with_reducible rfl
        try simp only [Act.put, List.getElem_toArray, List.getElem_cons_succ, List.getElem_cons_zero, List.setIfInBounds_toArray, List.set_cons_zero, List.set_cons_succ]
        refine AnyBut.takeS (i := 39) (v := ?v151) rfl (by kernel_rfl) (Nat.le_of_eq (by kernel_rfl)) (by kernel_rfl) (by kernel_rfl) (fun _ _ _ h => h) (HSS10.out) (Or.inl ⟨by kernel_rfl, ?hy151⟩) ?r151
        case hy151 =>
          intro w hSw
          try dsimp only at hSw
          go_simp
          try with_reducible rfl
        try simp only [Act.put, List.getElem_toArray, List.getElem_cons_succ, List.getElem_cons_zero, List.setIfInBounds_toArray, List.set_cons_zero, List.set_cons_succ]
        refine AnyBut.takeS (i := 40) (v := ?v152) rfl (by kernel_rfl) (Nat.le_of_eq (by kernel_rfl)) (by kernel_rfl) (by kernel_rfl) (fun _ _ _ h => h) (HSS10.out) (Or.inl ⟨by kernel_rfl, ?hy152⟩) ?r152
        case hy152 =>
          intro w hSw
          try dsimp only at hSw
          go_simp
          try with_reducible rfl
        try simp only [Act.put, List.getElem_toArray, List.getElem_cons_succ, List.getElem_cons_zero, List.setIfInBounds_toArray, List.set_cons_zero, List.set_cons_succ]
        refine AnyBut.done (by kernel_rfl) ?_
        go_wp2
        go_ret
        exact ⟨by kernel_rfl, HKW.out.trans HKu.out⟩
    · rw [decide_eq_true hla] at HLA
      rw [decide_eq_false hlb] at HLB
      clear ha hb hla hlb k0 hw0
      obtain ⟨asc, aze, apo, apl, ano, anl⟩ := a
      obtain ⟨bsc, bze, bpo, bpl, bno, bnl⟩ := b
      unfold histV at HLA HLB ⊢
      simp only at HLA HLB HW0 ⊢
      go_enter Try.func9, Try.ntmps9
      go_upto_region 1 with fail
      rw [← HW0.out]
      go_wp2_with fail
      refine HAW.out.mono ?_
      rintro e w1 ⟨rfl, k1⟩
      have HS1 := Lib.hid k1
      have HK1 := Lib.hid k1
      clear k1
      have HVA := Lib.hid (HVA.out.on HS1.out)
      have HVB := Lib.hid (HVB.out.on HS1.out)
      obtain ⟨hva0, hva1, hva2, hva3, hva4, hva5⟩ := HVA.out.box.c
      go_wp2_with fail
      refine (HLA.out _ HVA.out.at_).mono ?_
      rintro e w2 ⟨rfl, k2⟩
      have HS2 := Lib.hid k2
      clear k2
      have HK2 := Lib.hid (HK1.out.trans HS2.out)
      have HVA := Lib.hid (HVA.out.on HS2.out)
      have HVB := Lib.hid (HVB.out.on HS2.out)
      clear hva0 hva1 hva2 hva3 hva4 hva5
      obtain ⟨hvb0, hvb1, hvb2, hvb3, hvb4, hvb5⟩ := HVB.out.box.c
      go_wp2_with fail
      refine (HLB.out _ HVB.out.at_).mono ?_
      rintro e w3 ⟨rfl, k3⟩
      have HS3 := Lib.hid k3
      clear k3
      have HK3 := Lib.hid (HK2.out.trans HS3.out)
      have HVA := Lib.hid (HVA.out.on HS3.out)
      have HVB := Lib.hid (HVB.out.on HS3.out)
      clear hvb0 hvb1 hvb2 hvb3 hvb4 hvb5
      go_wp2
      go_ret
      exact ⟨rfl, HKW.out.trans HK3.out⟩
  · rw [decide_eq_false hla] at HLA
    clear ha hb hla k0 hw0
    obtain ⟨asc, aze, apo, apl, ano, anl⟩ := a
    obtain ⟨bsc, bze, bpo, bpl, bno, bnl⟩ := b
    unfold histV at HLA HLB ⊢
    simp only at HLA HLB HW0 ⊢
    go_enter Try.func9, Try.ntmps9
    go_upto_region 1 with fail
    rw [← HW0.out]
    go_wp2_with fail
    refine HAW.out.mono ?_
    rintro e w1 ⟨rfl, k1⟩
    have HS1 := Lib.hid k1
    have HK1 := Lib.hid k1
    clear k1
    have HVA := Lib.hid (HVA.out.on HS1.out)
    have HVB := Lib.hid (HVB.out.on HS1.out)
    obtain ⟨hva0, hva1, hva2, hva3, hva4, hva5⟩ := HVA.out.box.c
    go_wp2_with fail
    refine (HLA.out _ HVA.out.at_).mono ?_
    rintro e w2 ⟨rfl, k2⟩
    have HS2 := Lib.hid k2
    clear k2
    have HK2 := Lib.hid (HK1.out.trans HS2.out)
    have HVA := Lib.hid (HVA.out.on HS2.out)
    have HVB := Lib.hid (HVB.out.on HS2.out)
    clear hva0 hva1 hva2 hva3 hva4 hva5
    go_wp2
    go_ret
    exact ⟨rfl, HKW.out.trans HK2.out⟩
end Go.Proofs.Ytbjpcddnjndjlaa
