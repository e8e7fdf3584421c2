/- The document's layer 32: set (written by tools/gen_XDI.py). -/
import Derived.Test.YtjbjfdmdicfjfaaDI
namespace Go.Proofs.Ytjbjfdmdicfjfaa
open Go.RowKit
attribute [local go_sem ↓] Go.wp_at_zero Go.wp_at_succ

set_option maxHeartbeats 16000000 in
set_option maxRecDepth 100000 in
theorem rset_any (s : ByteArray) (fr : Nat) (w : World) (hf : fr < s.size) (hs : s.size ≤ 1000000) :
    Calls Try.prog 16 #[.string s, .int .i64 (fr : Int)] w fun e w' => SetTo w fr (setL ((bl s).drop fr)) e w' := by
  have HS := Lib.hid hs
  have HF := Lib.hid hf
  have HBL := Lib.hid (bl_length s)
  have HR := Lib.hid (fun i (hi : i < s.size) w => run_chr (P := Try.prog) Try.underlying9 s i hi w)
  obtain ⟨w1, hw1⟩ : ∃ w1, w1 = w.alloc (.cells #[.slice none 0 0, .int .i64 0, .int .i64 0] 29) := ⟨_, rfl⟩
  obtain ⟨rb, hrb⟩ : ∃ rb, rb = w.heap.size := ⟨_, rfl⟩
  have hb1 : w1.heap[rb]? = some (.cells #[.slice none 0 0, .int .i64 0, .int .i64 0] 29 (0, 0)) := by rw [hw1, hrb]; exact heap_alloc_new w _
  have HB1 := Lib.hid hb1
  have HK1 : Hid (Kept (fun _ => False) w w1) := Lib.hid (by rw [hw1]; exact (Kept.refl _ _).alloc _)
  have HRB := Lib.hid hrb
  have HLT : Hid (rb < w1.heap.size) := Lib.hid (Array.getElem?_eq_some_iff.1 hb1).1
  have HW1 := Lib.hid hw1.symm
  have HNO := Lib.hid (fun w => nothing_any false w)
  have hf0 : (0 : Int) ≤ (fr : Int) := by omega
  have wf1 : IntKind.i64.wrap ((fr : Int) + 1) = ((fr + 1 : Nat) : Int) := by rw [IntWalk.i64_in _ ⟨by omega, by omega⟩]; omega
  have wf2 : IntKind.i64.wrap (((fr + 1 : Nat) : Int) + 1) = ((fr + 2 : Nat) : Int) := by rw [IntWalk.i64_in _ ⟨by omega, by omega⟩]; omega
  have hg1 : ((bl s).drop fr).getD 1 0 = chr s (fr + 1) := by rw [getD_drop, bl_getD]
  have HG1 := Lib.hid hg1
  clear hw1 hb1 hg1
  obtain ⟨f1, hf1⟩ : ∃ k, k = fr + 1 := ⟨_, rfl⟩
  obtain ⟨f2, hf2⟩ : ∃ k, k = fr + 2 := ⟨_, rfl⟩
  rw [← hf1] at wf1 wf2 HG1
  rw [← hf2] at wf2
  have hf10 : (0 : Int) ≤ (f1 : Int) := by omega
  by_cases h0 : f1 < s.size
  · have q0 : (f1 : Int) < (s.size : Int) := by omega
    have q0' : decide (f1 < s.size) = true := decide_eq_true h0
    have hi1 := HR.out f1 h0
    by_cases h33 : chr s f1 = 33
    · rw [h33] at hi1
      have HG33 := Lib.hid (HG1.out.trans h33)
      obtain ⟨a0, ha0⟩ : ∃ k, k = f2 := ⟨_, rfl⟩
      rw [← ha0] at wf2
      have HA0 : Hid (a0 = fr + setFrom ((bl s).drop fr)) := Lib.hid (by unfold setFrom; rw [if_pos HG33.out]; omega)
      have HEND := Lib.hid (fun w => rend_any s a0 w (by omega) HS.out)
      clear hs hf h0 h33 hf1 hf2 ha0
      go_enter Try.func16, Try.ntmps16
      go_upto_region 1 with fail
      rw [HW1.out, ← hrb]
      clear hrb
      cases hE : endL ((bl s).drop a0) with
      | none =>
        have HX := Lib.hid (set_none HA0.out hE)
        rw [hE] at HEND
        go_wp2_with fail
        refine (HEND.out _).mono ?_
        rintro e w' ⟨rfl, rfl⟩
        clear hE
        go_wp2_with (refine wpList_store_row rfl 29 (.tmp 4) _ rfl rb #[.slice none 0 0, .int .i64 (fr : Int), .int .i64 2] rfl rfl 29 #[.slice none 0 0, .int .i64 0, .int .i64 0] HB1.out (got32_info _ _ _) rfl (all3 rfl rfl rfl) ?_)
        refine bodyPost_ret (v := .agg #[.slice none 0 0, .int .i64 (fr : Int), .int .i64 2]) (results_cell_row Try.results16 _ _ rb 29 _ (0, 0) _ rfl (setRow_heap _ _ _ _ _ _ HB1.out) Try.underlying29 rfl (got32_info _ _ _)) rfl ?_
        rw [HX.out]
        exact ⟨kept_row HK1.out (by have := HRB.out; omega), by simp, by omega⟩
      | some x =>
        have hlt := endL_lt hE
        rw [List.length_drop, bl_length] at hlt
        have HX := Lib.hid (set_some HA0.out hE)
        rw [hE] at HEND
        simp only at HEND
        obtain ⟨TO, hTO⟩ : ∃ k, k = a0 + x := ⟨_, rfl⟩
        rw [← hTO] at HX HEND
        have HTO := Lib.hid hTO
        have HTS := Lib.hid (show TO < s.size by omega)
        have HE0 := Lib.hid hE
        have ht0 : ¬ (TO : Int) < 0 := by omega
        go_wp2_with fail
        refine (HEND.out _).mono ?_
        rintro e w' ⟨rfl, rfl⟩
        by_cases hx0 : x = 0
        · have q8 : ((TO : Int) == (a0 : Int)) = true := by simp; omega
          have HX2 := Lib.hid (HX.out.trans (if_pos hx0))
          clear hE hlt hTO
          go_wp2_with (refine wpList_store_row rfl 29 (.tmp 4) _ rfl rb #[.slice none 0 0, .int .i64 (fr : Int), .int .i64 3] rfl rfl 29 #[.slice none 0 0, .int .i64 0, .int .i64 0] HB1.out (got32_info _ _ _) rfl (all3 rfl rfl rfl) ?_)
          refine bodyPost_ret (v := .agg #[.slice none 0 0, .int .i64 (fr : Int), .int .i64 3]) (results_cell_row Try.results16 _ _ rb 29 _ (0, 0) _ rfl (setRow_heap _ _ _ _ _ _ HB1.out) Try.underlying29 rfl (got32_info _ _ _)) rfl ?_
          rw [HX2.out]
          exact ⟨kept_row HK1.out (by have := HRB.out; omega), by simp, by omega⟩
        · have q8 : ((TO : Int) == (a0 : Int)) = false := by simp; omega
          have HX2 := Lib.hid (HX.out.trans (if_neg hx0))
          have HE1 : Hid (endL ((bl s).drop a0) = some (TO - a0)) := Lib.hid (by rw [HE0.out, hTO]; congr 1; omega)
          have HAT := Lib.hid (show a0 ≤ TO by omega)
          have HFA := Lib.hid (show fr ≤ a0 by have := HA0.out; omega)
          clear hE hlt hTO hx0
          go_wp2_with fail
          refine (HNO.out w1).mono ?_
          rintro e w2 ⟨v, rfl, hm⟩
          obtain ⟨g, cp, rfl⟩ := mine_row hm (by rw [boV_length, boF_length]; omega)
          rw [boV_length, boF_length] at hm ⊢
          have HM2 := Lib.hid hm
          clear hm q8 ht0
          go_upto_region 11 with fail
          go_loopg [5] (TO - a0) (fun G s5 wr => ∃ j : Nat, j ≤ TO ∧ G = TO - j ∧ s5 = .int .i64 j ∧ ∃ f, Mine w1 wr 4 (.slice (some ⟨g, 0, none⟩) 256 cp) (boV (boF f)) ∧ endL ((bl s).drop j) = some (TO - j) ∧ fr ≤ j ∧ thingsA (((bl s).take TO).drop a0) noF (a0 - fr) = thingsA (((bl s).take TO).drop j) f (j - fr))
          case atStart => exact ⟨a0, HAT.out, rfl, rfl, _, HM2.out, HE1.out, HFA.out, rfl⟩
          case round =>
            obtain ⟨j, hjT, rfl, rfl, f, hm, hal, hfj, hth⟩ := hrel
            have HM := Lib.hid hm
            have HAL := Lib.hid hal
            have HTH := Lib.hid hth
            have HFJ := Lib.hid hfj
            have HBX := Lib.hid (hm.kept.same HB1.out (fun x => x))
            have HKR := Lib.hid (HK1.out.trans hm.kept)
            have HGW := Lib.hid (ownsRow_lt hm.own (k := g) rfl)
            clear hm hal hth hfj
            by_cases hd : j < TO
            · have hdj : (j : Int) < (TO : Int) := by omega
              have hdj' : decide (j < TO) = true := decide_eq_true hd
              have hjs : j < s.size := by have := HTS.out; omega
              have hj0 : (0 : Int) ≤ (j : Int) := by omega
              have hix := HR.out j hjs
              have HD := Lib.hid hd
              have hne : ((bl s).take TO).drop j ≠ [] := fun e => by
                have := congrArg List.length e
                rw [inside_len (by rw [bl_length]; have := HTS.out; omega)] at this
                simp at this; omega
              have HNE := Lib.hid hne
              have HGD := Lib.hid (bl_getD s j)
              clear hne
              by_cases h45 : chr s j = 45
              · rw [h45] at hix
                have htd := thing_dash (B := bl s) hd (by rw [bl_length]; have := HTS.out; omega) (by rw [bl_getD]; exact h45)
                have w1' : IntKind.i64.wrap ((j : Int) + 1) = ((j + 1 : Nat) : Int) := by rw [IntWalk.i64_in _ ⟨by omega, by have := HS.out; omega⟩]; omega
                obtain ⟨j1, hj1⟩ : ∃ k, k = j + 1 := ⟨_, rfl⟩
                rw [← hj1] at w1' htd
                have HJ1 := Lib.hid hj1
                by_cases hjT1 : j1 = TO
                · rw [if_pos hjT1] at htd
                  have hst := thingsA_step f (j - fr) HNE.out htd
                  have q9' : ((j1 : Int) != (TO : Int)) = false := bneF (by omega)
                  have hcell := mine_cell HM.out (boV_get (l := boF f) (j := 45) (by rw [boF_length]; omega))
                  have hfz := mine_unfz HM.out 45
                  have hm6 := mine_set HM.out 45 (.bool true)
                  rw [boV_set, boF_set] at hm6
                  have HM6 := Lib.hid hm6
                  rw [List.drop_drop, ← hj1] at hst
                  have HST := Lib.hid (HTH.out.trans hst)
                  obtain ⟨bb, hbb⟩ : ∃ b, b = (boF f).getD 45 false := ⟨_, rfl⟩
                  rw [← hbb] at hcell
                  have HJT := Lib.hid hjT1
                  clear h45 htd hst hbb hm6 hj1 hjT1
                  go_upto_region 16 with fail
                  obtain ⟨w6, hw6⟩ : ∃ w6, w6 = wr.setCell ⟨g, 45, none⟩ (.bool true) := ⟨_, rfl⟩
                  rw [← hw6] at HM6 ⊢
                  clear hw6 hcell hfz
                  go_wp2
                  go_roundg (TO - j1)
                  case measure => have := HJ1.out; omega
                  case rel =>
                    refine ⟨j1, by have := HJT.out; omega, rfl, rfl, _, HM6.out, ?_, by have := HJ1.out; have := HFJ.out; omega, ?_⟩
                    · have hst2 := step_at HAL.out HD.out
                      have hk1 : (byteL ((bl s).drop j)).2 = 1 := by
                        rw [byteL_2, getD_drop, Nat.add_zero]
                        have h2 : j + (byteL ((bl s).drop j)).2 ≤ TO := hst2.1
                        rw [byteL_2, getD_drop, Nat.add_zero] at h2
                        split at h2
                        · have := HJ1.out; have := HJT.out; omega
                        · rename_i hc; rw [if_neg hc]
                      rw [hk1] at hst2
                      rw [HJ1.out]; exact hst2.2.1
                    · rw [HST.out, show j1 - fr = j - fr + 1 by have := HJ1.out; have := HFJ.out; omega]
                · rw [if_neg hjT1] at htd
                  have hbad := thingsA_bad f (j - fr) HNE.out htd
                  have q9' : ((j1 : Int) != (TO : Int)) = true := bneT (by omega)
                  have HX3 := Lib.hid (by rw [HX2.out, HTH.out, hbad] : setL ((bl s).drop fr) = .bad (j - fr) 3)
                  clear h45 htd hbad hj1
                  go_wp2_with (refine wpList_store_row rfl 29 (.tmp 4) _ rfl rb #[.slice none 0 0, .int .i64 (j : Int), .int .i64 3] rfl rfl 29 #[.slice none 0 0, .int .i64 0, .int .i64 0] HBX.out (got32_info _ _ _) rfl (all3 rfl rfl rfl) ?_)
                  refine bodyPost_ret (v := .agg #[.slice none 0 0, .int .i64 (j : Int), .int .i64 3]) (results_cell_row Try.results16 _ _ rb 29 _ (0, 0) _ rfl (setRow_heap _ _ _ _ _ _ HBX.out) Try.underlying29 rfl (got32_info _ _ _)) rfl ?_
                  rw [HX3.out]
                  exact ⟨kept_row HKR.out (by have := HRB.out; omega), by rw [show fr + (j - fr) = j by have := HFJ.out; omega]; rfl, by omega⟩
              · have hst := step_at HAL.out hd
                have hte := thing_else (B := bl s) hd hst.2.2 (by rw [bl_getD]; exact h45) HAL.out
                have hpos := byteL_pos ((bl s).drop j)
                have hb256 := byteL_lt (l := (bl s).drop j) (fun x hx => bl_lt (List.mem_of_mem_drop hx))
                have HTG := Lib.hid (fun w => rthing_any s j w (by have := HTS.out; omega) HS.out)
                have q45 : ((chr s j : Int) == 45) = false := by simp; omega
                have q45' : (chr s j == 45) = false := by simp [h45]
                obtain ⟨cc, hcc⟩ : ∃ c, c = chr s j := ⟨_, rfl⟩
                rw [← hcc] at hix q45 q45'
                obtain ⟨ck, hck⟩ : ∃ p, p = byteL ((bl s).drop j) := ⟨_, rfl⟩
                rw [← hck] at hst hte HTG hpos hb256
                obtain ⟨c1, k1⟩ := ck
                simp only at hst hte HTG hpos hb256
                obtain ⟨n1, hn1⟩ : ∃ k, k = j + k1 := ⟨_, rfl⟩
                rw [← hn1] at hst hte HTG
                have HN1 := Lib.hid hn1
                have HC1 := Lib.hid hb256
                have HST := Lib.hid hst
                have HK1P := Lib.hid hpos
                clear hcc hck hn1 h45 hb256 hpos
                go_wp2_with fail
                refine (HTG.out _).mono ?_
                rintro e w2 ⟨rfl, k2⟩
                have HM3 := Lib.hid (HM.out.on k2)
                have hsz2 := k2.size
                go_upto_region 19 with fail
                obtain ⟨q9, hq9⟩ : ∃ q, q = w2.heap.size := ⟨_, rfl⟩
                rw [← hq9]
                obtain ⟨w3, hw3⟩ : ∃ w3, w3 = (w2.alloc (.cells #[.int .u8 (c1 : Int), .int .i64 (n1 : Int)] 63)).alloc (.cells #[.int .u8 (c1 : Int), .int .i64 (n1 : Int)] 63) := ⟨_, rfl⟩
                rw [← hw3]
                have HQ9 : Hid (w3.heap[q9]? = some (.cells #[.int .u8 (c1 : Int), .int .i64 (n1 : Int)] 63 (0, 0))) := Lib.hid (by rw [hw3, hq9, Below.heap_alloc _ _ _ (by simp)]; exact heap_alloc_new w2 _)
                have HQ10 : Hid (w3.heap[q9 + 1]? = some (.cells #[.int .u8 (c1 : Int), .int .i64 (n1 : Int)] 63 (0, 0))) := Lib.hid (by
                  have h := heap_alloc_new (w2.alloc (.cells #[.int .u8 (c1 : Int), .int .i64 (n1 : Int)] 63)) (.cells #[.int .u8 (c1 : Int), .int .i64 (n1 : Int)] 63)
                  rw [show (w2.alloc (.cells #[.int .u8 (c1 : Int), .int .i64 (n1 : Int)] 63)).heap.size = w2.heap.size + 1 by simp, ← hq9] at h
                  rw [hw3]; exact h)
                have HM5 : Hid (Mine w1 w3 4 (.slice (some ⟨g, 0, none⟩) 256 cp) (boV (boF f))) := Lib.hid (by rw [hw3]; exact (HM3.out.alloc _).alloc _)
                have HGQ : Hid (g < q9) := Lib.hid (by have := HGW.out.1; omega)
                clear hw3 hq9 hsz2 k2 hix q45 q45'
                have y1 : w3.cell? ⟨q9, 1, none⟩ = some (.int .i64 (n1 : Int)) := by rw [cell_of_row _ _ _ _ _ _ HQ9.out]; rfl
                have wn1 : IntKind.i64.wrap ((n1 : Int) + 1) = ((n1 + 1 : Nat) : Int) := by rw [IntWalk.i64_in _ ⟨by omega, by have := HS.out; have := HTS.out; have := hst.1; omega⟩]; omega
                obtain ⟨n11, hn11⟩ : ∃ k, k = n1 + 1 := ⟨_, rfl⟩
                rw [← hn11] at wn1 hte
                have hn10 : (0 : Int) ≤ (n1 : Int) := by omega
                have hn110 : (0 : Int) ≤ (n11 : Int) := by omega
                rw [bl_getD, bl_getD] at hte
                by_cases hr : n11 < TO ∧ chr s n1 = 45 ∧ chr s n11 ≠ 45
                · rw [if_pos hr] at hte
                  obtain ⟨hr1, hr2, hr3⟩ := hr
                  have g1 := step_at hst.2.1 (by omega)
                  have hk1 : (byteL ((bl s).drop n1)).2 = 1 := by rw [byteL_2, getD_drop, Nat.add_zero, bl_getD, if_neg (by omega)]
                  rw [hk1, ← hn11] at g1
                  have g2 := step_at g1.2.1 hr1
                  have hb2 := byteL_lt (l := (bl s).drop n11) (fun x hx => bl_lt (List.mem_of_mem_drop hx))
                  have HTG2 := Lib.hid (fun w => rthing_any s n11 w (by have := HTS.out; omega) HS.out)
                  have hi1 := HR.out n1 (by have := HTS.out; omega)
                  have hi2 := HR.out n11 (by have := HTS.out; omega)
                  rw [hr2] at hi1
                  obtain ⟨x2, hx2⟩ : ∃ c, c = chr s n11 := ⟨_, rfl⟩
                  rw [← hx2] at hi2 hr3
                  have qa : (n11 : Int) < (TO : Int) := by omega
                  have qa' : decide (n11 < TO) = true := decide_eq_true hr1
                  have qb : ((x2 : Int) != 45) = true := bneT (by omega)
                  obtain ⟨dm, hdm⟩ : ∃ p, p = byteL ((bl s).drop n11) := ⟨_, rfl⟩
                  rw [← hdm] at hte HTG2 g2 hb2
                  obtain ⟨c2, m2⟩ := dm
                  simp only at hte HTG2 g2 hb2
                  obtain ⟨n2, hn2⟩ : ∃ k, k = n11 + m2 := ⟨_, rfl⟩
                  rw [← hn2] at HTG2 g2
                  have HN2 := Lib.hid (And.intro hn2 hn11)
                  have HG2 := Lib.hid g2
                  have HB2 := Lib.hid hb2
                  have HTE := Lib.hid hte
                  clear hst hte g1 g2 hk1 hr2 hr3 hx2 hdm hn2 hb2 hn11
                  go_wp2_with fail
                  refine (HTG2.out _).mono ?_
                  rintro e w4 ⟨rfl, k4⟩
                  have HM4 := Lib.hid (HM5.out.on k4)
                  have HQ9b := Lib.hid (k4.same HQ9.out (fun x => x))
                  have HQ10b := Lib.hid (k4.same HQ10.out (fun x => x))
                  clear k4 y1 hi1 hi2
                  go_upto_region 21 with (refine wpList_store_row rfl 63 (.tmp 10) _ rfl (q9 + 1) #[.int .u8 (c2 : Int), .int .i64 (n2 : Int)] rfl rfl 63 #[.int .u8 (c1 : Int), .int .i64 (n1 : Int)] HQ10b.out (thing_info _ _) rfl (all2 rfl rfl) ?_)
                  obtain ⟨w5, hw5⟩ : ∃ w5, w5 = w4.setRow (q9 + 1) #[.int .u8 (c2 : Int), .int .i64 (n2 : Int)] := ⟨_, rfl⟩
                  rw [← hw5]
                  simp only [Act.put]
                  clear HQ9 HQ10 HM5
                  have HQ9 : Hid (w5.heap[q9]? = some (.cells #[.int .u8 (c1 : Int), .int .i64 (n1 : Int)] 63 (0, 0))) := Lib.hid (by rw [hw5, setRow_other _ _ _ _ (by omega)]; exact HQ9b.out)
                  have HQ10 : Hid (w5.heap[q9 + 1]? = some (.cells #[.int .u8 (c2 : Int), .int .i64 (n2 : Int)] 63 (0, 0))) := Lib.hid (by rw [hw5]; exact setRow_heap _ _ _ _ _ _ HQ10b.out)
                  have HM5 : Hid (Mine w1 w5 4 (.slice (some ⟨g, 0, none⟩) 256 cp) (boV (boF f))) := Lib.hid (by
                    rw [hw5]
                    refine HM4.out.keptS (S := fun k => k = q9 + 1) ⟨rfl, rfl, rfl, by simp, fun k _ hk => setRow_other _ _ _ _ (fun e => hk e)⟩ (fun k e e2 => ?_) (fun k e => ?_)
                    · have := HGQ.out; simp [Value.ownBlock] at e; omega
                    · have := HGQ.out; have := (ownsRow_lt HM4.out.own (k := g) rfl).2; omega)
                  clear hw5
                  by_cases hcmp : c1 ≤ c2
                  · have HTE2 := Lib.hid (HTE.out.trans (if_pos hcmp))
                    have HCC := Lib.hid hcmp
                    have HCB := Lib.hid HB2.out
                    have hfin := thingsA_step f (j - fr) HNE.out HTE2.out
                    rw [List.drop_drop] at hfin
                    have HNB : Hid (j < n2 ∧ n2 ≤ TO ∧ endL ((bl s).drop n2) = some (TO - n2) ∧ thingsA (((bl s).take TO).drop a0) noF (a0 - fr) = thingsA (((bl s).take TO).drop n2) (orF f c1 c2) (n2 - fr)) := Lib.hid (by
                      have h1 := HN1.out; have h2 := HN2.out; have h3 := HFJ.out
                      refine ⟨by omega, HG2.out.1, HG2.out.2.1, ?_⟩
                      rw [HTH.out, hfin, show j + (k1 + 1 + m2) = n2 by omega, show j - fr + (k1 + 1 + m2) = n2 - fr by omega])
                    clear hfin hcmp
                    have y0 : w5.cell? ⟨q9, 0, none⟩ = some (.int .u8 (c1 : Int)) := by rw [cell_of_row _ _ _ _ _ _ HQ9.out]; rfl
                    have z0 : w5.cell? ⟨q9 + 1, 0, none⟩ = some (.int .u8 (c2 : Int)) := by rw [cell_of_row _ _ _ _ _ _ HQ10.out]; rfl
                    have hcc : ¬ (c2 : Int) < (c1 : Int) := by have := HCC.out; omega
                    have hcc' : decide (c2 < c1) = false := decide_eq_false (by have := HCC.out; omega)
                    have wc1 := HC1.out
                    go_upto_region 24 with fail
                    clear y0 z0 hcc hcc' wc1
                    go_loopg [11] (c2 + 1 - c1) (fun G s11 wr => ∃ z : Nat, z ≤ c2 + 1 ∧ c1 ≤ z ∧ G = c2 + 1 - z ∧ s11 = .int .i64 z ∧ Mine w1 wr 4 (.slice (some ⟨g, 0, none⟩) 256 cp) (boV (boF fun y => f y || decide (c1 ≤ y ∧ y < z))) ∧ wr.heap[q9]? = some (.cells #[.int .u8 (c1 : Int), .int .i64 (n1 : Int)] 63 (0, 0)) ∧ wr.heap[q9 + 1]? = some (.cells #[.int .u8 (c2 : Int), .int .i64 (n2 : Int)] 63 (0, 0)))
                    case atStart =>
                      refine ⟨c1, by have := HCC.out; omega, Nat.le_refl _, rfl, rfl, ?_, HQ9.out, HQ10.out⟩
                      rw [show (fun y => f y || decide (c1 ≤ y ∧ y < c1)) = f by funext y; rw [decide_eq_false (by omega), Bool.or_false]]
                      exact HM5.out
                    case round =>
                      obtain ⟨z, hz1, hz2, rfl, rfl, hml, hq9, hq10⟩ := hrel
                      have HML := Lib.hid hml
                      have HL9 := Lib.hid hq9
                      have HL10 := Lib.hid hq10
                      have z0 : wr.cell? ⟨q9 + 1, 0, none⟩ = some (.int .u8 (c2 : Int)) := (cell_of_row _ (q9 + 1) 0 _ _ _ hq10).trans rfl
                      have z1 : wr.cell? ⟨q9 + 1, 1, none⟩ = some (.int .i64 (n2 : Int)) := (cell_of_row _ (q9 + 1) 1 _ _ _ hq10).trans rfl
                      clear hml hq9 hq10
                      by_cases hdz : z < c2 + 1
                      · have hdz1 : (z : Int) ≤ (c2 : Int) := by omega
                        have hdz1' : decide (z ≤ c2) = true := decide_eq_true (by omega)
                        have hz256 : z < 256 := by have := HCB.out; omega
                        have hzl : (z : Int) < 256 := by omega
                        have hzl' : decide (z < 256) = true := decide_eq_true hz256
                        have hz0 : (0 : Int) ≤ (z : Int) := by omega
                        have hcell := mine_cell HML.out (boV_get (l := boF fun y => f y || decide (c1 ≤ y ∧ y < z)) (j := z) (by rw [boF_length]; exact hz256))
                        have hfz := mine_unfz HML.out z
                        have hm6 := mine_set HML.out z (.bool true)
                        rw [boV_set, boF_set, show orF (fun y => f y || decide (c1 ≤ y ∧ y < z)) z z = (fun y => f y || decide (c1 ≤ y ∧ y < z + 1)) by
                          funext y
                          unfold orF
                          rw [Bool.or_assoc, ← Bool.decide_or]
                          congr 1
                          apply decide_eq_decide.2
                          omega] at hm6
                        have hq9' : ∀ u, (wr.setCell ⟨g, z, none⟩ u).heap[q9]? = some (.cells #[.int .u8 (c1 : Int), .int .i64 (n1 : Int)] 63 (0, 0)) := fun u => by rw [heap_setCell_other _ _ _ _ (by show q9 ≠ g; have := HGQ.out; omega)]; exact HL9.out
                        have hq10' : ∀ u, (wr.setCell ⟨g, z, none⟩ u).heap[q9 + 1]? = some (.cells #[.int .u8 (c2 : Int), .int .i64 (n2 : Int)] 63 (0, 0)) := fun u => by rw [heap_setCell_other _ _ _ _ (by show q9 + 1 ≠ g; have := HGQ.out; omega)]; exact HL10.out
                        have HN6 := Lib.hid (And.intro hm6 (And.intro (hq9' (.bool true)) (hq10' (.bool true))))
                        have wz : IntKind.i64.wrap ((z : Int) + 1) = ((z + 1 : Nat) : Int) := by rw [IntWalk.i64_in _ ⟨by omega, by omega⟩]; omega
                        obtain ⟨bb, hbb⟩ : ∃ b, b = (boF fun y => f y || decide (c1 ≤ y ∧ y < z)).getD z false := ⟨_, rfl⟩
                        rw [← hbb] at hcell
                        clear hm6 hq9' hq10' hbb z1
                        have wcb := HCB.out
                        go_upto_region 25 with fail
                        obtain ⟨w6, hw6⟩ : ∃ w6, w6 = wr.setCell ⟨g, z, none⟩ (.bool true) := ⟨_, rfl⟩
                        rw [← hw6] at HN6 ⊢
                        clear hw6 hcell hfz z0 wcb
                        go_wp2
                        go_roundg (c2 + 1 - (z + 1))
                        case measure => omega
                        case rel => exact ⟨z + 1, by omega, by omega, rfl, rfl, HN6.out.1, HN6.out.2.1, HN6.out.2.2⟩
                      · have hdz1 : ¬ (z : Int) ≤ (c2 : Int) := by omega
                        have hdz1' : decide (z ≤ c2) = false := decide_eq_false (by omega)
                        have HM7 : Hid (Mine w1 wr 4 (.slice (some ⟨g, 0, none⟩) 256 cp) (boV (boF (orF f c1 c2)))) := Lib.hid (by
                          rw [show orF f c1 c2 = (fun y => f y || decide (c1 ≤ y ∧ y < z)) by
                            funext y
                            unfold orF
                            congr 1
                            apply decide_eq_decide.2
                            omega]
                          exact HML.out)
                        clear hz1 hz2 hdz
                        have wcb := HCB.out
                        go_wp2
                        go_roundg (TO - n2)
                        case measure => have := HNB.out.1; have := HNB.out.2.1; omega
                        case rel => exact ⟨n2, HNB.out.2.1, rfl, rfl, _, HM7.out, HNB.out.2.2.1, by have := HNB.out.1; have := HFJ.out; omega, HNB.out.2.2.2⟩
                  · have HTE2 := Lib.hid (HTE.out.trans (if_neg hcmp))
                    have hbad := thingsA_bad f (j - fr) HNE.out HTE2.out
                    have HX3 := Lib.hid (by rw [HX2.out, HTH.out, hbad] : setL ((bl s).drop fr) = .bad (j - fr) 3)
                    have y0 : w5.cell? ⟨q9, 0, none⟩ = some (.int .u8 (c1 : Int)) := by rw [cell_of_row _ _ _ _ _ _ HQ9.out]; rfl
                    have z0 : w5.cell? ⟨q9 + 1, 0, none⟩ = some (.int .u8 (c2 : Int)) := by rw [cell_of_row _ _ _ _ _ _ HQ10.out]; rfl
                    have hccA : (c2 : Int) < (c1 : Int) := by omega
                    have hccA' : decide (c2 < c1) = true := decide_eq_true (by omega)
                    have HBX5 := Lib.hid (HM5.out.kept.same HB1.out (fun x => x))
                    have HKR5 := Lib.hid (HK1.out.trans HM5.out.kept)
                    clear hbad hcmp
                    go_wp2_with (refine wpList_store_row rfl 29 (.tmp 4) _ rfl rb #[.slice none 0 0, .int .i64 (j : Int), .int .i64 3] rfl rfl 29 #[.slice none 0 0, .int .i64 0, .int .i64 0] HBX5.out (got32_info _ _ _) rfl (all3 rfl rfl rfl) ?_)
                    refine bodyPost_ret (v := .agg #[.slice none 0 0, .int .i64 (j : Int), .int .i64 3]) (results_cell_row Try.results16 _ _ rb 29 _ (0, 0) _ rfl (setRow_heap _ _ _ _ _ _ HBX5.out) Try.underlying29 rfl (got32_info _ _ _)) rfl ?_
                    rw [HX3.out]
                    exact ⟨kept_row HKR5.out (by have := HRB.out; omega), by rw [show fr + (j - fr) = j by have := HFJ.out; omega]; rfl, by omega⟩
                · rw [if_neg hr] at hte
                  have HCC := Lib.hid (Nat.le_refl c1)
                  have HCB := HC1
                  have hfin := thingsA_step f (j - fr) HNE.out hte
                  rw [List.drop_drop] at hfin
                  have HNB : Hid (j < n1 ∧ n1 ≤ TO ∧ endL ((bl s).drop n1) = some (TO - n1) ∧ thingsA (((bl s).take TO).drop a0) noF (a0 - fr) = thingsA (((bl s).take TO).drop n1) (orF f c1 c1) (n1 - fr)) := Lib.hid (by
                    have h1 := HN1.out; have h3 := HFJ.out; have h4 := HK1P.out
                    refine ⟨by omega, HST.out.1, HST.out.2.1, ?_⟩
                    rw [HTH.out, hfin, show j + k1 = n1 by omega, show j - fr + k1 = n1 - fr by omega])
                  clear hfin hte
                  by_cases hr1 : n11 < TO
                  · have qa : (n11 : Int) < (TO : Int) := by omega
                    have qa' : decide (n11 < TO) = true := decide_eq_true hr1
                    have hi1 := HR.out n1 (by have := HTS.out; omega)
                    have hi2 := HR.out n11 (by have := HTS.out; omega)
                    by_cases hr2 : chr s n1 = 45
                    · have hr3 : chr s n11 = 45 := Classical.byContradiction fun e => hr ⟨hr1, hr2, e⟩
                      rw [hr2] at hi1
                      obtain ⟨x3, hx3⟩ : ∃ c, c = chr s n11 := ⟨_, rfl⟩
                      rw [← hx3] at hi2 hr3
                      have qc : ((x3 : Int) != 45) = false := bneF (by omega)
                      clear hst hr hr1 hr2 hr3 hx3 hn11
                      have y0 : w3.cell? ⟨q9, 0, none⟩ = some (.int .u8 (c1 : Int)) := by rw [cell_of_row _ _ _ _ _ _ HQ9.out]; rfl
                      have z0 : w3.cell? ⟨q9 + 1, 0, none⟩ = some (.int .u8 (c1 : Int)) := by rw [cell_of_row _ _ _ _ _ _ HQ10.out]; rfl
                      have hcc : ¬ (c1 : Int) < (c1 : Int) := by have := HCC.out; omega
                      have hcc' : decide (c1 < c1) = false := decide_eq_false (by have := HCC.out; omega)
                      have wc1 := HC1.out
                      go_upto_region 24 with fail
                      clear y0 z0 hcc hcc' wc1
                      go_loopg [11] (c1 + 1 - c1) (fun G s11 wr => ∃ z : Nat, z ≤ c1 + 1 ∧ c1 ≤ z ∧ G = c1 + 1 - z ∧ s11 = .int .i64 z ∧ Mine w1 wr 4 (.slice (some ⟨g, 0, none⟩) 256 cp) (boV (boF fun y => f y || decide (c1 ≤ y ∧ y < z))) ∧ wr.heap[q9]? = some (.cells #[.int .u8 (c1 : Int), .int .i64 (n1 : Int)] 63 (0, 0)) ∧ wr.heap[q9 + 1]? = some (.cells #[.int .u8 (c1 : Int), .int .i64 (n1 : Int)] 63 (0, 0)))
                      case atStart =>
                        refine ⟨c1, by have := HCC.out; omega, Nat.le_refl _, rfl, rfl, ?_, HQ9.out, HQ10.out⟩
                        rw [show (fun y => f y || decide (c1 ≤ y ∧ y < c1)) = f by funext y; rw [decide_eq_false (by omega), Bool.or_false]]
                        exact HM5.out
                      case round =>
                        obtain ⟨z, hz1, hz2, rfl, rfl, hml, hq9, hq10⟩ := hrel
                        have HML := Lib.hid hml
                        have HL9 := Lib.hid hq9
                        have HL10 := Lib.hid hq10
                        have z0 : wr.cell? ⟨q9 + 1, 0, none⟩ = some (.int .u8 (c1 : Int)) := (cell_of_row _ (q9 + 1) 0 _ _ _ hq10).trans rfl
                        have z1 : wr.cell? ⟨q9 + 1, 1, none⟩ = some (.int .i64 (n1 : Int)) := (cell_of_row _ (q9 + 1) 1 _ _ _ hq10).trans rfl
                        clear hml hq9 hq10
                        by_cases hdz : z < c1 + 1
                        · have hdz1 : (z : Int) ≤ (c1 : Int) := by omega
                          have hdz1' : decide (z ≤ c1) = true := decide_eq_true (by omega)
                          have hz256 : z < 256 := by have := HCB.out; omega
                          have hzl : (z : Int) < 256 := by omega
                          have hzl' : decide (z < 256) = true := decide_eq_true hz256
                          have hz0 : (0 : Int) ≤ (z : Int) := by omega
                          have hcell := mine_cell HML.out (boV_get (l := boF fun y => f y || decide (c1 ≤ y ∧ y < z)) (j := z) (by rw [boF_length]; exact hz256))
                          have hfz := mine_unfz HML.out z
                          have hm6 := mine_set HML.out z (.bool true)
                          rw [boV_set, boF_set, show orF (fun y => f y || decide (c1 ≤ y ∧ y < z)) z z = (fun y => f y || decide (c1 ≤ y ∧ y < z + 1)) by
                            funext y
                            unfold orF
                            rw [Bool.or_assoc, ← Bool.decide_or]
                            congr 1
                            apply decide_eq_decide.2
                            omega] at hm6
                          have hq9' : ∀ u, (wr.setCell ⟨g, z, none⟩ u).heap[q9]? = some (.cells #[.int .u8 (c1 : Int), .int .i64 (n1 : Int)] 63 (0, 0)) := fun u => by rw [heap_setCell_other _ _ _ _ (by show q9 ≠ g; have := HGQ.out; omega)]; exact HL9.out
                          have hq10' : ∀ u, (wr.setCell ⟨g, z, none⟩ u).heap[q9 + 1]? = some (.cells #[.int .u8 (c1 : Int), .int .i64 (n1 : Int)] 63 (0, 0)) := fun u => by rw [heap_setCell_other _ _ _ _ (by show q9 + 1 ≠ g; have := HGQ.out; omega)]; exact HL10.out
                          have HN6 := Lib.hid (And.intro hm6 (And.intro (hq9' (.bool true)) (hq10' (.bool true))))
                          have wz : IntKind.i64.wrap ((z : Int) + 1) = ((z + 1 : Nat) : Int) := by rw [IntWalk.i64_in _ ⟨by omega, by omega⟩]; omega
                          obtain ⟨bb, hbb⟩ : ∃ b, b = (boF fun y => f y || decide (c1 ≤ y ∧ y < z)).getD z false := ⟨_, rfl⟩
                          rw [← hbb] at hcell
                          clear hm6 hq9' hq10' hbb z1
                          have wcb := HCB.out
                          go_upto_region 25 with fail
                          obtain ⟨w6, hw6⟩ : ∃ w6, w6 = wr.setCell ⟨g, z, none⟩ (.bool true) := ⟨_, rfl⟩
                          rw [← hw6] at HN6 ⊢
                          clear hw6 hcell hfz z0 wcb
                          go_wp2
                          go_roundg (c1 + 1 - (z + 1))
                          case measure => omega
                          case rel => exact ⟨z + 1, by omega, by omega, rfl, rfl, HN6.out.1, HN6.out.2.1, HN6.out.2.2⟩
                        · have hdz1 : ¬ (z : Int) ≤ (c1 : Int) := by omega
                          have hdz1' : decide (z ≤ c1) = false := decide_eq_false (by omega)
                          have HM7 : Hid (Mine w1 wr 4 (.slice (some ⟨g, 0, none⟩) 256 cp) (boV (boF (orF f c1 c1)))) := Lib.hid (by
                            rw [show orF f c1 c1 = (fun y => f y || decide (c1 ≤ y ∧ y < z)) by
                              funext y
                              unfold orF
                              congr 1
                              apply decide_eq_decide.2
                              omega]
                            exact HML.out)
                          clear hz1 hz2 hdz
                          have wcb := HCB.out
                          go_wp2
                          go_roundg (TO - n1)
                          case measure => have := HNB.out.1; have := HNB.out.2.1; omega
                          case rel => exact ⟨n1, HNB.out.2.1, rfl, rfl, _, HM7.out, HNB.out.2.2.1, by have := HNB.out.1; have := HFJ.out; omega, HNB.out.2.2.2⟩
                    · obtain ⟨x1, hx1⟩ : ∃ c, c = chr s n1 := ⟨_, rfl⟩
                      rw [← hx1] at hi1 hr2
                      have qb : ((x1 : Int) == 45) = false := by simp; omega
                      have qb' : (x1 == 45) = false := by simp [hr2]
                      clear hst hr hr1 hr2 hx1
                      have y0 : w3.cell? ⟨q9, 0, none⟩ = some (.int .u8 (c1 : Int)) := by rw [cell_of_row _ _ _ _ _ _ HQ9.out]; rfl
                      have z0 : w3.cell? ⟨q9 + 1, 0, none⟩ = some (.int .u8 (c1 : Int)) := by rw [cell_of_row _ _ _ _ _ _ HQ10.out]; rfl
                      have hcc : ¬ (c1 : Int) < (c1 : Int) := by have := HCC.out; omega
                      have hcc' : decide (c1 < c1) = false := decide_eq_false (by have := HCC.out; omega)
                      have wc1 := HC1.out
                      go_upto_region 24 with fail
                      clear y0 z0 hcc hcc' wc1
                      go_loopg [11] (c1 + 1 - c1) (fun G s11 wr => ∃ z : Nat, z ≤ c1 + 1 ∧ c1 ≤ z ∧ G = c1 + 1 - z ∧ s11 = .int .i64 z ∧ Mine w1 wr 4 (.slice (some ⟨g, 0, none⟩) 256 cp) (boV (boF fun y => f y || decide (c1 ≤ y ∧ y < z))) ∧ wr.heap[q9]? = some (.cells #[.int .u8 (c1 : Int), .int .i64 (n1 : Int)] 63 (0, 0)) ∧ wr.heap[q9 + 1]? = some (.cells #[.int .u8 (c1 : Int), .int .i64 (n1 : Int)] 63 (0, 0)))
                      case atStart =>
                        refine ⟨c1, by have := HCC.out; omega, Nat.le_refl _, rfl, rfl, ?_, HQ9.out, HQ10.out⟩
                        rw [show (fun y => f y || decide (c1 ≤ y ∧ y < c1)) = f by funext y; rw [decide_eq_false (by omega), Bool.or_false]]
                        exact HM5.out
                      case round =>
                        obtain ⟨z, hz1, hz2, rfl, rfl, hml, hq9, hq10⟩ := hrel
                        have HML := Lib.hid hml
                        have HL9 := Lib.hid hq9
                        have HL10 := Lib.hid hq10
                        have z0 : wr.cell? ⟨q9 + 1, 0, none⟩ = some (.int .u8 (c1 : Int)) := (cell_of_row _ (q9 + 1) 0 _ _ _ hq10).trans rfl
                        have z1 : wr.cell? ⟨q9 + 1, 1, none⟩ = some (.int .i64 (n1 : Int)) := (cell_of_row _ (q9 + 1) 1 _ _ _ hq10).trans rfl
                        clear hml hq9 hq10
                        by_cases hdz : z < c1 + 1
                        · have hdz1 : (z : Int) ≤ (c1 : Int) := by omega
                          have hdz1' : decide (z ≤ c1) = true := decide_eq_true (by omega)
                          have hz256 : z < 256 := by have := HCB.out; omega
                          have hzl : (z : Int) < 256 := by omega
                          have hzl' : decide (z < 256) = true := decide_eq_true hz256
                          have hz0 : (0 : Int) ≤ (z : Int) := by omega
                          have hcell := mine_cell HML.out (boV_get (l := boF fun y => f y || decide (c1 ≤ y ∧ y < z)) (j := z) (by rw [boF_length]; exact hz256))
                          have hfz := mine_unfz HML.out z
                          have hm6 := mine_set HML.out z (.bool true)
                          rw [boV_set, boF_set, show orF (fun y => f y || decide (c1 ≤ y ∧ y < z)) z z = (fun y => f y || decide (c1 ≤ y ∧ y < z + 1)) by
                            funext y
                            unfold orF
                            rw [Bool.or_assoc, ← Bool.decide_or]
                            congr 1
                            apply decide_eq_decide.2
                            omega] at hm6
                          have hq9' : ∀ u, (wr.setCell ⟨g, z, none⟩ u).heap[q9]? = some (.cells #[.int .u8 (c1 : Int), .int .i64 (n1 : Int)] 63 (0, 0)) := fun u => by rw [heap_setCell_other _ _ _ _ (by show q9 ≠ g; have := HGQ.out; omega)]; exact HL9.out
                          have hq10' : ∀ u, (wr.setCell ⟨g, z, none⟩ u).heap[q9 + 1]? = some (.cells #[.int .u8 (c1 : Int), .int .i64 (n1 : Int)] 63 (0, 0)) := fun u => by rw [heap_setCell_other _ _ _ _ (by show q9 + 1 ≠ g; have := HGQ.out; omega)]; exact HL10.out
                          have HN6 := Lib.hid (And.intro hm6 (And.intro (hq9' (.bool true)) (hq10' (.bool true))))
                          have wz : IntKind.i64.wrap ((z : Int) + 1) = ((z + 1 : Nat) : Int) := by rw [IntWalk.i64_in _ ⟨by omega, by omega⟩]; omega
                          obtain ⟨bb, hbb⟩ : ∃ b, b = (boF fun y => f y || decide (c1 ≤ y ∧ y < z)).getD z false := ⟨_, rfl⟩
                          rw [← hbb] at hcell
                          clear hm6 hq9' hq10' hbb z1
                          have wcb := HCB.out
                          go_upto_region 25 with fail
                          obtain ⟨w6, hw6⟩ : ∃ w6, w6 = wr.setCell ⟨g, z, none⟩ (.bool true) := ⟨_, rfl⟩
                          rw [← hw6] at HN6 ⊢
                          clear hw6 hcell hfz z0 wcb
                          go_wp2
                          go_roundg (c1 + 1 - (z + 1))
                          case measure => omega
                          case rel => exact ⟨z + 1, by omega, by omega, rfl, rfl, HN6.out.1, HN6.out.2.1, HN6.out.2.2⟩
                        · have hdz1 : ¬ (z : Int) ≤ (c1 : Int) := by omega
                          have hdz1' : decide (z ≤ c1) = false := decide_eq_false (by omega)
                          have HM7 : Hid (Mine w1 wr 4 (.slice (some ⟨g, 0, none⟩) 256 cp) (boV (boF (orF f c1 c1)))) := Lib.hid (by
                            rw [show orF f c1 c1 = (fun y => f y || decide (c1 ≤ y ∧ y < z)) by
                              funext y
                              unfold orF
                              congr 1
                              apply decide_eq_decide.2
                              omega]
                            exact HML.out)
                          clear hz1 hz2 hdz
                          have wcb := HCB.out
                          go_wp2
                          go_roundg (TO - n1)
                          case measure => have := HNB.out.1; have := HNB.out.2.1; omega
                          case rel => exact ⟨n1, HNB.out.2.1, rfl, rfl, _, HM7.out, HNB.out.2.2.1, by have := HNB.out.1; have := HFJ.out; omega, HNB.out.2.2.2⟩
                  · have qa : ¬ (n11 : Int) < (TO : Int) := by omega
                    have qa' : decide (n11 < TO) = false := decide_eq_false hr1
                    clear hst hr hr1
                    have y0 : w3.cell? ⟨q9, 0, none⟩ = some (.int .u8 (c1 : Int)) := by rw [cell_of_row _ _ _ _ _ _ HQ9.out]; rfl
                    have z0 : w3.cell? ⟨q9 + 1, 0, none⟩ = some (.int .u8 (c1 : Int)) := by rw [cell_of_row _ _ _ _ _ _ HQ10.out]; rfl
                    have hcc : ¬ (c1 : Int) < (c1 : Int) := by have := HCC.out; omega
                    have hcc' : decide (c1 < c1) = false := decide_eq_false (by have := HCC.out; omega)
                    have wc1 := HC1.out
                    go_upto_region 24 with fail
                    clear y0 z0 hcc hcc' wc1
                    go_loopg [11] (c1 + 1 - c1) (fun G s11 wr => ∃ z : Nat, z ≤ c1 + 1 ∧ c1 ≤ z ∧ G = c1 + 1 - z ∧ s11 = .int .i64 z ∧ Mine w1 wr 4 (.slice (some ⟨g, 0, none⟩) 256 cp) (boV (boF fun y => f y || decide (c1 ≤ y ∧ y < z))) ∧ wr.heap[q9]? = some (.cells #[.int .u8 (c1 : Int), .int .i64 (n1 : Int)] 63 (0, 0)) ∧ wr.heap[q9 + 1]? = some (.cells #[.int .u8 (c1 : Int), .int .i64 (n1 : Int)] 63 (0, 0)))
                    case atStart =>
                      refine ⟨c1, by have := HCC.out; omega, Nat.le_refl _, rfl, rfl, ?_, HQ9.out, HQ10.out⟩
                      rw [show (fun y => f y || decide (c1 ≤ y ∧ y < c1)) = f by funext y; rw [decide_eq_false (by omega), Bool.or_false]]
                      exact HM5.out
                    case round =>
                      obtain ⟨z, hz1, hz2, rfl, rfl, hml, hq9, hq10⟩ := hrel
                      have HML := Lib.hid hml
                      have HL9 := Lib.hid hq9
                      have HL10 := Lib.hid hq10
                      have z0 : wr.cell? ⟨q9 + 1, 0, none⟩ = some (.int .u8 (c1 : Int)) := (cell_of_row _ (q9 + 1) 0 _ _ _ hq10).trans rfl
                      have z1 : wr.cell? ⟨q9 + 1, 1, none⟩ = some (.int .i64 (n1 : Int)) := (cell_of_row _ (q9 + 1) 1 _ _ _ hq10).trans rfl
                      clear hml hq9 hq10
                      by_cases hdz : z < c1 + 1
                      · have hdz1 : (z : Int) ≤ (c1 : Int) := by omega
                        have hdz1' : decide (z ≤ c1) = true := decide_eq_true (by omega)
                        have hz256 : z < 256 := by have := HCB.out; omega
                        have hzl : (z : Int) < 256 := by omega
                        have hzl' : decide (z < 256) = true := decide_eq_true hz256
                        have hz0 : (0 : Int) ≤ (z : Int) := by omega
                        have hcell := mine_cell HML.out (boV_get (l := boF fun y => f y || decide (c1 ≤ y ∧ y < z)) (j := z) (by rw [boF_length]; exact hz256))
                        have hfz := mine_unfz HML.out z
                        have hm6 := mine_set HML.out z (.bool true)
                        rw [boV_set, boF_set, show orF (fun y => f y || decide (c1 ≤ y ∧ y < z)) z z = (fun y => f y || decide (c1 ≤ y ∧ y < z + 1)) by
                          funext y
                          unfold orF
                          rw [Bool.or_assoc, ← Bool.decide_or]
                          congr 1
                          apply decide_eq_decide.2
                          omega] at hm6
                        have hq9' : ∀ u, (wr.setCell ⟨g, z, none⟩ u).heap[q9]? = some (.cells #[.int .u8 (c1 : Int), .int .i64 (n1 : Int)] 63 (0, 0)) := fun u => by rw [heap_setCell_other _ _ _ _ (by show q9 ≠ g; have := HGQ.out; omega)]; exact HL9.out
                        have hq10' : ∀ u, (wr.setCell ⟨g, z, none⟩ u).heap[q9 + 1]? = some (.cells #[.int .u8 (c1 : Int), .int .i64 (n1 : Int)] 63 (0, 0)) := fun u => by rw [heap_setCell_other _ _ _ _ (by show q9 + 1 ≠ g; have := HGQ.out; omega)]; exact HL10.out
                        have HN6 := Lib.hid (And.intro hm6 (And.intro (hq9' (.bool true)) (hq10' (.bool true))))
                        have wz : IntKind.i64.wrap ((z : Int) + 1) = ((z + 1 : Nat) : Int) := by rw [IntWalk.i64_in _ ⟨by omega, by omega⟩]; omega
                        obtain ⟨bb, hbb⟩ : ∃ b, b = (boF fun y => f y || decide (c1 ≤ y ∧ y < z)).getD z false := ⟨_, rfl⟩
                        rw [← hbb] at hcell
                        clear hm6 hq9' hq10' hbb z1
                        have wcb := HCB.out
                        go_upto_region 25 with fail
                        obtain ⟨w6, hw6⟩ : ∃ w6, w6 = wr.setCell ⟨g, z, none⟩ (.bool true) := ⟨_, rfl⟩
                        rw [← hw6] at HN6 ⊢
                        clear hw6 hcell hfz z0 wcb
                        go_wp2
                        go_roundg (c1 + 1 - (z + 1))
                        case measure => omega
                        case rel => exact ⟨z + 1, by omega, by omega, rfl, rfl, HN6.out.1, HN6.out.2.1, HN6.out.2.2⟩
                      · have hdz1 : ¬ (z : Int) ≤ (c1 : Int) := by omega
                        have hdz1' : decide (z ≤ c1) = false := decide_eq_false (by omega)
                        have HM7 : Hid (Mine w1 wr 4 (.slice (some ⟨g, 0, none⟩) 256 cp) (boV (boF (orF f c1 c1)))) := Lib.hid (by
                          rw [show orF f c1 c1 = (fun y => f y || decide (c1 ≤ y ∧ y < z)) by
                            funext y
                            unfold orF
                            congr 1
                            apply decide_eq_decide.2
                            omega]
                          exact HML.out)
                        clear hz1 hz2 hdz
                        have wcb := HCB.out
                        go_wp2
                        go_roundg (TO - n1)
                        case measure => have := HNB.out.1; have := HNB.out.2.1; omega
                        case rel => exact ⟨n1, HNB.out.2.1, rfl, rfl, _, HM7.out, HNB.out.2.2.1, by have := HNB.out.1; have := HFJ.out; omega, HNB.out.2.2.2⟩
            · obtain rfl : j = TO := by omega
              have hdj : ¬ (j : Int) < (j : Int) := by omega
              have hdj' : decide (j < j) = false := decide_eq_false hd
              have hnil : ((bl s).take j).drop j = [] := List.drop_eq_nil_of_le (by rw [List.length_take]; omega)
              have hfin := HTH.out
              rw [hnil, thingsA_nil] at hfin
              have wj : IntKind.i64.wrap ((j : Int) + 1) = ((j + 1 : Nat) : Int) := by rw [IntWalk.i64_in _ ⟨by omega, by have := HS.out; have := HTS.out; omega⟩]; omega
              obtain ⟨j1, hj1⟩ : ∃ k, k = j + 1 := ⟨_, rfl⟩
              rw [← hj1] at wj
              have HJ1 := Lib.hid (show fr + (j - fr + 1) = j1 by have := HFJ.out; omega)
              have HX3 := Lib.hid (by rw [HX2.out, hfin]; dsimp only; rw [if_pos HG33.out] : setL ((bl s).drop fr) = .good ⟨2, 0, fun z => !f z⟩ (j - fr + 1))
              clear hnil hfin hj1
              go_upto_region 30 with fail
              go_loopg [12] 256 (fun G s12 wr => ∃ i : Nat, i ≤ 256 ∧ G = 256 - i ∧ s12 = .int .i64 i ∧ Mine w1 wr 4 (.slice (some ⟨g, 0, none⟩) 256 cp) (boV ((boF fun z => !f z).take i ++ (boF f).drop i)))
              case atStart => exact ⟨0, by omega, rfl, rfl, HM.out⟩
              case round =>
                obtain ⟨i, hi6, rfl, rfl, hml⟩ := hrel
                have HML := Lib.hid hml
                clear hml
                by_cases hdi : i < 256
                · have hdl : (i : Int) < 256 := by omega
                  have hdl' : decide (i < 256) = true := decide_eq_true hdi
                  have hi0 : (0 : Int) ≤ (i : Int) := by omega
                  have hcell := mine_cell HML.out (j := i) (u := .bool (f i)) (by unfold boV; rw [List.getElem?_map, flip_at hdi]; rfl)
                  have hfz := mine_unfz HML.out i
                  have hm6 := mine_set HML.out i (.bool (!f i))
                  rw [boV_set, flip_step hdi] at hm6
                  have HM6 := Lib.hid hm6
                  have wz : IntKind.i64.wrap ((i : Int) + 1) = ((i + 1 : Nat) : Int) := by rw [IntWalk.i64_in _ ⟨by omega, by omega⟩]; omega
                  clear hm6
                  obtain ⟨fi, hfi⟩ : ∃ b, b = f i := ⟨_, rfl⟩
                  rw [← hfi] at hcell HM6
                  clear hfi
                  go_upto_region 31 with fail
                  obtain ⟨w6, hw6⟩ : ∃ w6, w6 = wr.setCell ⟨g, i, none⟩ (.bool (!fi)) := ⟨_, rfl⟩
                  rw [← hw6] at HM6 ⊢
                  clear hw6 hcell hfz
                  go_wp2
                  go_roundg (256 - (i + 1))
                  case measure => omega
                  case rel => exact ⟨i + 1, by omega, rfl, rfl, HM6.out⟩
                · obtain rfl : i = 256 := by omega
                  have HMF : Hid (Mine w1 wr 4 (.slice (some ⟨g, 0, none⟩) 256 cp) (boV (boF fun z => !f z))) := Lib.hid (by
                    have h := HML.out
                    rw [List.take_of_length_le (by rw [boF_length]; omega), List.drop_eq_nil_of_le (by rw [boF_length]; omega), List.append_nil] at h
                    exact h)
                  have HBF := Lib.hid (((Kept.refl (fun _ => False) wr).alloc (.cells #[.bool false, .bool false, .slice (some ⟨g, 0, none⟩) 256 cp, .int .u8 0] 53)).same (HMF.out.kept.same HB1.out (fun x => x)) (fun x => x))
                  clear hi6 hdi
                  go_wp2_with (first
                    | (refine wpList_store_row rfl 29 (.tmp 4) _ rfl rb #[.slice (some ⟨wr.heap.size, 0, none⟩) 1 1, .int .i64 (j1 : Int), .int .i64 0] rfl rfl 29 #[.slice none 0 0, .int .i64 0, .int .i64 0] HBF.out (got32_info _ _ _) rfl (all3 rfl rfl rfl) ?_))
                  refine bodyPost_ret (v := .agg #[.slice (some ⟨wr.heap.size, 0, none⟩) 1 1, .int .i64 (j1 : Int), .int .i64 0]) (results_cell_row Try.results16 _ _ rb 29 _ (0, 0) _ rfl (setRow_heap _ _ _ _ _ _ HBF.out) Try.underlying29 rfl (got32_info _ _ _)) rfl ?_
                  rw [HX3.out]
                  have hkA : Kept (fun k => k = rb) ((wr.alloc (.cells #[.bool false, .bool false, .slice (some ⟨g, 0, none⟩) 256 cp, .int .u8 0] 53))) (((wr.alloc (.cells #[.bool false, .bool false, .slice (some ⟨g, 0, none⟩) 256 cp, .int .u8 0] 53))).setRow rb #[.slice (some ⟨wr.heap.size, 0, none⟩) 1 1, .int .i64 (j1 : Int), .int .i64 0]) := ⟨rfl, rfl, rfl, by simp, fun k _ hk => setRow_other _ _ _ _ (fun e => hk e)⟩
                  have hrne : wr.heap.size ≠ rb := by have := HLT.out; have := HMF.out.kept.size; omega
                  refine ⟨kept_row ((HK1.out.trans HMF.out.kept).alloc _) (by have := HRB.out; omega), wr.heap.size, g, cp, by rw [HJ1.out], ?_, ?_⟩
                  · intro _
                    refine ⟨wr.heap.size, 0, rfl, fun i p hi jj u hu => ?_⟩
                    have hi0 : i = 0 := by have := (List.getElem?_eq_some_iff.1 hi).1; simp at this; omega
                    subst hi0
                    simp only [List.getElem?_cons_zero, Option.some.injEq] at hi
                    subst hi
                    refine hkA.cell ?_ hrne
                    rw [cell_of_row _ _ _ _ _ _ (heap_alloc_new _ _)]
                    simpa [cellsRP] using hu
                  · refine ((inAt_mine HMF.out ⟨2, 0, fun z => !f z⟩ (fun x _ => rfl)).kept ((Kept.refl (fun _ => False) _).alloc _)).keptS hkA (fun g' cs' hb' e => ?_)
                    rw [e, HBF.out] at hb'
                    injection hb' with hb'
                    injection hb' with _ hb' _
                    exact absurd hb' (by decide)
    · obtain ⟨x1, hx1⟩ : ∃ c, c = chr s f1 := ⟨_, rfl⟩
      have HG33 := Lib.hid (show ¬ ((bl s).drop fr).getD 1 0 = 33 by rw [HG1.out]; exact h33)
      rw [← hx1] at hi1 h33
      have q1 : ((x1 : Int) == 33) = false := by simp; omega
      have q1' : (x1 == 33) = false := by simp [h33]
      obtain ⟨a0, ha0⟩ : ∃ k, k = f1 := ⟨_, rfl⟩
      rw [← ha0] at wf1 q0 q0' hi1 hf10
      have HA0 : Hid (a0 = fr + setFrom ((bl s).drop fr)) := Lib.hid (by unfold setFrom; rw [if_neg HG33.out]; omega)
      have HEND := Lib.hid (fun w => rend_any s a0 w (by omega) HS.out)
      clear hs hf h0 h33 hf1 hf2 ha0 hx1 wf2
      go_enter Try.func16, Try.ntmps16
      go_upto_region 1 with fail
      rw [HW1.out, ← hrb]
      clear hrb
      cases hE : endL ((bl s).drop a0) with
      | none =>
        have HX := Lib.hid (set_none HA0.out hE)
        rw [hE] at HEND
        go_wp2_with fail
        refine (HEND.out _).mono ?_
        rintro e w' ⟨rfl, rfl⟩
        clear hE
        go_wp2_with (refine wpList_store_row rfl 29 (.tmp 4) _ rfl rb #[.slice none 0 0, .int .i64 (fr : Int), .int .i64 2] rfl rfl 29 #[.slice none 0 0, .int .i64 0, .int .i64 0] HB1.out (got32_info _ _ _) rfl (all3 rfl rfl rfl) ?_)
        refine bodyPost_ret (v := .agg #[.slice none 0 0, .int .i64 (fr : Int), .int .i64 2]) (results_cell_row Try.results16 _ _ rb 29 _ (0, 0) _ rfl (setRow_heap _ _ _ _ _ _ HB1.out) Try.underlying29 rfl (got32_info _ _ _)) rfl ?_
        rw [HX.out]
        exact ⟨kept_row HK1.out (by have := HRB.out; omega), by simp, by omega⟩
      | some x =>
        have hlt := endL_lt hE
        rw [List.length_drop, bl_length] at hlt
        have HX := Lib.hid (set_some HA0.out hE)
        rw [hE] at HEND
        simp only at HEND
        obtain ⟨TO, hTO⟩ : ∃ k, k = a0 + x := ⟨_, rfl⟩
        rw [← hTO] at HX HEND
        have HTO := Lib.hid hTO
        have HTS := Lib.hid (show TO < s.size by omega)
        have HE0 := Lib.hid hE
        have ht0 : ¬ (TO : Int) < 0 := by omega
        go_wp2_with fail
        refine (HEND.out _).mono ?_
        rintro e w' ⟨rfl, rfl⟩
        by_cases hx0 : x = 0
        · have q8 : ((TO : Int) == (a0 : Int)) = true := by simp; omega
          have HX2 := Lib.hid (HX.out.trans (if_pos hx0))
          clear hE hlt hTO
          go_wp2_with (refine wpList_store_row rfl 29 (.tmp 4) _ rfl rb #[.slice none 0 0, .int .i64 (fr : Int), .int .i64 3] rfl rfl 29 #[.slice none 0 0, .int .i64 0, .int .i64 0] HB1.out (got32_info _ _ _) rfl (all3 rfl rfl rfl) ?_)
          refine bodyPost_ret (v := .agg #[.slice none 0 0, .int .i64 (fr : Int), .int .i64 3]) (results_cell_row Try.results16 _ _ rb 29 _ (0, 0) _ rfl (setRow_heap _ _ _ _ _ _ HB1.out) Try.underlying29 rfl (got32_info _ _ _)) rfl ?_
          rw [HX2.out]
          exact ⟨kept_row HK1.out (by have := HRB.out; omega), by simp, by omega⟩
        · have q8 : ((TO : Int) == (a0 : Int)) = false := by simp; omega
          have HX2 := Lib.hid (HX.out.trans (if_neg hx0))
          have HE1 : Hid (endL ((bl s).drop a0) = some (TO - a0)) := Lib.hid (by rw [HE0.out, hTO]; congr 1; omega)
          have HAT := Lib.hid (show a0 ≤ TO by omega)
          have HFA := Lib.hid (show fr ≤ a0 by have := HA0.out; omega)
          clear hE hlt hTO hx0
          go_wp2_with fail
          refine (HNO.out w1).mono ?_
          rintro e w2 ⟨v, rfl, hm⟩
          obtain ⟨g, cp, rfl⟩ := mine_row hm (by rw [boV_length, boF_length]; omega)
          rw [boV_length, boF_length] at hm ⊢
          have HM2 := Lib.hid hm
          clear hm q8 ht0
          go_upto_region 11 with fail
          go_loopg [5] (TO - a0) (fun G s5 wr => ∃ j : Nat, j ≤ TO ∧ G = TO - j ∧ s5 = .int .i64 j ∧ ∃ f, Mine w1 wr 4 (.slice (some ⟨g, 0, none⟩) 256 cp) (boV (boF f)) ∧ endL ((bl s).drop j) = some (TO - j) ∧ fr ≤ j ∧ thingsA (((bl s).take TO).drop a0) noF (a0 - fr) = thingsA (((bl s).take TO).drop j) f (j - fr))
          case atStart => exact ⟨a0, HAT.out, rfl, rfl, _, HM2.out, HE1.out, HFA.out, rfl⟩
          case round =>
            obtain ⟨j, hjT, rfl, rfl, f, hm, hal, hfj, hth⟩ := hrel
            have HM := Lib.hid hm
            have HAL := Lib.hid hal
            have HTH := Lib.hid hth
            have HFJ := Lib.hid hfj
            have HBX := Lib.hid (hm.kept.same HB1.out (fun x => x))
            have HKR := Lib.hid (HK1.out.trans hm.kept)
            have HGW := Lib.hid (ownsRow_lt hm.own (k := g) rfl)
            clear hm hal hth hfj
            by_cases hd : j < TO
            · have hdj : (j : Int) < (TO : Int) := by omega
              have hdj' : decide (j < TO) = true := decide_eq_true hd
              have hjs : j < s.size := by have := HTS.out; omega
              have hj0 : (0 : Int) ≤ (j : Int) := by omega
              have hix := HR.out j hjs
              have HD := Lib.hid hd
              have hne : ((bl s).take TO).drop j ≠ [] := fun e => by
                have := congrArg List.length e
                rw [inside_len (by rw [bl_length]; have := HTS.out; omega)] at this
                simp at this; omega
              have HNE := Lib.hid hne
              have HGD := Lib.hid (bl_getD s j)
              clear hne
              by_cases h45 : chr s j = 45
              · rw [h45] at hix
                have htd := thing_dash (B := bl s) hd (by rw [bl_length]; have := HTS.out; omega) (by rw [bl_getD]; exact h45)
                have w1' : IntKind.i64.wrap ((j : Int) + 1) = ((j + 1 : Nat) : Int) := by rw [IntWalk.i64_in _ ⟨by omega, by have := HS.out; omega⟩]; omega
                obtain ⟨j1, hj1⟩ : ∃ k, k = j + 1 := ⟨_, rfl⟩
                rw [← hj1] at w1' htd
                have HJ1 := Lib.hid hj1
                by_cases hjT1 : j1 = TO
                · rw [if_pos hjT1] at htd
                  have hst := thingsA_step f (j - fr) HNE.out htd
                  have q9' : ((j1 : Int) != (TO : Int)) = false := bneF (by omega)
                  have hcell := mine_cell HM.out (boV_get (l := boF f) (j := 45) (by rw [boF_length]; omega))
                  have hfz := mine_unfz HM.out 45
                  have hm6 := mine_set HM.out 45 (.bool true)
                  rw [boV_set, boF_set] at hm6
                  have HM6 := Lib.hid hm6
                  rw [List.drop_drop, ← hj1] at hst
                  have HST := Lib.hid (HTH.out.trans hst)
                  obtain ⟨bb, hbb⟩ : ∃ b, b = (boF f).getD 45 false := ⟨_, rfl⟩
                  rw [← hbb] at hcell
                  have HJT := Lib.hid hjT1
                  clear h45 htd hst hbb hm6 hj1 hjT1
                  go_upto_region 16 with fail
                  obtain ⟨w6, hw6⟩ : ∃ w6, w6 = wr.setCell ⟨g, 45, none⟩ (.bool true) := ⟨_, rfl⟩
                  rw [← hw6] at HM6 ⊢
                  clear hw6 hcell hfz
                  go_wp2
                  go_roundg (TO - j1)
                  case measure => have := HJ1.out; omega
                  case rel =>
                    refine ⟨j1, by have := HJT.out; omega, rfl, rfl, _, HM6.out, ?_, by have := HJ1.out; have := HFJ.out; omega, ?_⟩
                    · have hst2 := step_at HAL.out HD.out
                      have hk1 : (byteL ((bl s).drop j)).2 = 1 := by
                        rw [byteL_2, getD_drop, Nat.add_zero]
                        have h2 : j + (byteL ((bl s).drop j)).2 ≤ TO := hst2.1
                        rw [byteL_2, getD_drop, Nat.add_zero] at h2
                        split at h2
                        · have := HJ1.out; have := HJT.out; omega
                        · rename_i hc; rw [if_neg hc]
                      rw [hk1] at hst2
                      rw [HJ1.out]; exact hst2.2.1
                    · rw [HST.out, show j1 - fr = j - fr + 1 by have := HJ1.out; have := HFJ.out; omega]
                · rw [if_neg hjT1] at htd
                  have hbad := thingsA_bad f (j - fr) HNE.out htd
                  have q9' : ((j1 : Int) != (TO : Int)) = true := bneT (by omega)
                  have HX3 := Lib.hid (by rw [HX2.out, HTH.out, hbad] : setL ((bl s).drop fr) = .bad (j - fr) 3)
                  clear h45 htd hbad hj1
                  go_wp2_with (refine wpList_store_row rfl 29 (.tmp 4) _ rfl rb #[.slice none 0 0, .int .i64 (j : Int), .int .i64 3] rfl rfl 29 #[.slice none 0 0, .int .i64 0, .int .i64 0] HBX.out (got32_info _ _ _) rfl (all3 rfl rfl rfl) ?_)
                  refine bodyPost_ret (v := .agg #[.slice none 0 0, .int .i64 (j : Int), .int .i64 3]) (results_cell_row Try.results16 _ _ rb 29 _ (0, 0) _ rfl (setRow_heap _ _ _ _ _ _ HBX.out) Try.underlying29 rfl (got32_info _ _ _)) rfl ?_
                  rw [HX3.out]
                  exact ⟨kept_row HKR.out (by have := HRB.out; omega), by rw [show fr + (j - fr) = j by have := HFJ.out; omega]; rfl, by omega⟩
              · have hst := step_at HAL.out hd
                have hte := thing_else (B := bl s) hd hst.2.2 (by rw [bl_getD]; exact h45) HAL.out
                have hpos := byteL_pos ((bl s).drop j)
                have hb256 := byteL_lt (l := (bl s).drop j) (fun x hx => bl_lt (List.mem_of_mem_drop hx))
                have HTG := Lib.hid (fun w => rthing_any s j w (by have := HTS.out; omega) HS.out)
                have q45 : ((chr s j : Int) == 45) = false := by simp; omega
                have q45' : (chr s j == 45) = false := by simp [h45]
                obtain ⟨cc, hcc⟩ : ∃ c, c = chr s j := ⟨_, rfl⟩
                rw [← hcc] at hix q45 q45'
                obtain ⟨ck, hck⟩ : ∃ p, p = byteL ((bl s).drop j) := ⟨_, rfl⟩
                rw [← hck] at hst hte HTG hpos hb256
                obtain ⟨c1, k1⟩ := ck
                simp only at hst hte HTG hpos hb256
                obtain ⟨n1, hn1⟩ : ∃ k, k = j + k1 := ⟨_, rfl⟩
                rw [← hn1] at hst hte HTG
                have HN1 := Lib.hid hn1
                have HC1 := Lib.hid hb256
                have HST := Lib.hid hst
                have HK1P := Lib.hid hpos
                clear hcc hck hn1 h45 hb256 hpos
                go_wp2_with fail
                refine (HTG.out _).mono ?_
                rintro e w2 ⟨rfl, k2⟩
                have HM3 := Lib.hid (HM.out.on k2)
                have hsz2 := k2.size
                go_upto_region 19 with fail
                obtain ⟨q9, hq9⟩ : ∃ q, q = w2.heap.size := ⟨_, rfl⟩
                rw [← hq9]
                obtain ⟨w3, hw3⟩ : ∃ w3, w3 = (w2.alloc (.cells #[.int .u8 (c1 : Int), .int .i64 (n1 : Int)] 63)).alloc (.cells #[.int .u8 (c1 : Int), .int .i64 (n1 : Int)] 63) := ⟨_, rfl⟩
                rw [← hw3]
                have HQ9 : Hid (w3.heap[q9]? = some (.cells #[.int .u8 (c1 : Int), .int .i64 (n1 : Int)] 63 (0, 0))) := Lib.hid (by rw [hw3, hq9, Below.heap_alloc _ _ _ (by simp)]; exact heap_alloc_new w2 _)
                have HQ10 : Hid (w3.heap[q9 + 1]? = some (.cells #[.int .u8 (c1 : Int), .int .i64 (n1 : Int)] 63 (0, 0))) := Lib.hid (by
                  have h := heap_alloc_new (w2.alloc (.cells #[.int .u8 (c1 : Int), .int .i64 (n1 : Int)] 63)) (.cells #[.int .u8 (c1 : Int), .int .i64 (n1 : Int)] 63)
                  rw [show (w2.alloc (.cells #[.int .u8 (c1 : Int), .int .i64 (n1 : Int)] 63)).heap.size = w2.heap.size + 1 by simp, ← hq9] at h
                  rw [hw3]; exact h)
                have HM5 : Hid (Mine w1 w3 4 (.slice (some ⟨g, 0, none⟩) 256 cp) (boV (boF f))) := Lib.hid (by rw [hw3]; exact (HM3.out.alloc _).alloc _)
                have HGQ : Hid (g < q9) := Lib.hid (by have := HGW.out.1; omega)
                clear hw3 hq9 hsz2 k2 hix q45 q45'
                have y1 : w3.cell? ⟨q9, 1, none⟩ = some (.int .i64 (n1 : Int)) := by rw [cell_of_row _ _ _ _ _ _ HQ9.out]; rfl
                have wn1 : IntKind.i64.wrap ((n1 : Int) + 1) = ((n1 + 1 : Nat) : Int) := by rw [IntWalk.i64_in _ ⟨by omega, by have := HS.out; have := HTS.out; have := hst.1; omega⟩]; omega
                obtain ⟨n11, hn11⟩ : ∃ k, k = n1 + 1 := ⟨_, rfl⟩
                rw [← hn11] at wn1 hte
                have hn10 : (0 : Int) ≤ (n1 : Int) := by omega
                have hn110 : (0 : Int) ≤ (n11 : Int) := by omega
                rw [bl_getD, bl_getD] at hte
                by_cases hr : n11 < TO ∧ chr s n1 = 45 ∧ chr s n11 ≠ 45
                · rw [if_pos hr] at hte
                  obtain ⟨hr1, hr2, hr3⟩ := hr
                  have g1 := step_at hst.2.1 (by omega)
                  have hk1 : (byteL ((bl s).drop n1)).2 = 1 := by rw [byteL_2, getD_drop, Nat.add_zero, bl_getD, if_neg (by omega)]
                  rw [hk1, ← hn11] at g1
                  have g2 := step_at g1.2.1 hr1
                  have hb2 := byteL_lt (l := (bl s).drop n11) (fun x hx => bl_lt (List.mem_of_mem_drop hx))
                  have HTG2 := Lib.hid (fun w => rthing_any s n11 w (by have := HTS.out; omega) HS.out)
                  have hi1 := HR.out n1 (by have := HTS.out; omega)
                  have hi2 := HR.out n11 (by have := HTS.out; omega)
                  rw [hr2] at hi1
                  obtain ⟨x2, hx2⟩ : ∃ c, c = chr s n11 := ⟨_, rfl⟩
                  rw [← hx2] at hi2 hr3
                  have qa : (n11 : Int) < (TO : Int) := by omega
                  have qa' : decide (n11 < TO) = true := decide_eq_true hr1
                  have qb : ((x2 : Int) != 45) = true := bneT (by omega)
                  obtain ⟨dm, hdm⟩ : ∃ p, p = byteL ((bl s).drop n11) := ⟨_, rfl⟩
                  rw [← hdm] at hte HTG2 g2 hb2
                  obtain ⟨c2, m2⟩ := dm
                  simp only at hte HTG2 g2 hb2
                  obtain ⟨n2, hn2⟩ : ∃ k, k = n11 + m2 := ⟨_, rfl⟩
                  rw [← hn2] at HTG2 g2
                  have HN2 := Lib.hid (And.intro hn2 hn11)
                  have HG2 := Lib.hid g2
                  have HB2 := Lib.hid hb2
                  have HTE := Lib.hid hte
                  clear hst hte g1 g2 hk1 hr2 hr3 hx2 hdm hn2 hb2 hn11
                  go_wp2_with fail
                  refine (HTG2.out _).mono ?_
                  rintro e w4 ⟨rfl, k4⟩
                  have HM4 := Lib.hid (HM5.out.on k4)
                  have HQ9b := Lib.hid (k4.same HQ9.out (fun x => x))
                  have HQ10b := Lib.hid (k4.same HQ10.out (fun x => x))
                  clear k4 y1 hi1 hi2
                  go_upto_region 21 with (refine wpList_store_row rfl 63 (.tmp 10) _ rfl (q9 + 1) #[.int .u8 (c2 : Int), .int .i64 (n2 : Int)] rfl rfl 63 #[.int .u8 (c1 : Int), .int .i64 (n1 : Int)] HQ10b.out (thing_info _ _) rfl (all2 rfl rfl) ?_)
                  obtain ⟨w5, hw5⟩ : ∃ w5, w5 = w4.setRow (q9 + 1) #[.int .u8 (c2 : Int), .int .i64 (n2 : Int)] := ⟨_, rfl⟩
                  rw [← hw5]
                  simp only [Act.put]
                  clear HQ9 HQ10 HM5
                  have HQ9 : Hid (w5.heap[q9]? = some (.cells #[.int .u8 (c1 : Int), .int .i64 (n1 : Int)] 63 (0, 0))) := Lib.hid (by rw [hw5, setRow_other _ _ _ _ (by omega)]; exact HQ9b.out)
                  have HQ10 : Hid (w5.heap[q9 + 1]? = some (.cells #[.int .u8 (c2 : Int), .int .i64 (n2 : Int)] 63 (0, 0))) := Lib.hid (by rw [hw5]; exact setRow_heap _ _ _ _ _ _ HQ10b.out)
                  have HM5 : Hid (Mine w1 w5 4 (.slice (some ⟨g, 0, none⟩) 256 cp) (boV (boF f))) := Lib.hid (by
                    rw [hw5]
                    refine HM4.out.keptS (S := fun k => k = q9 + 1) ⟨rfl, rfl, rfl, by simp, fun k _ hk => setRow_other _ _ _ _ (fun e => hk e)⟩ (fun k e e2 => ?_) (fun k e => ?_)
                    · have := HGQ.out; simp [Value.ownBlock] at e; omega
                    · have := HGQ.out; have := (ownsRow_lt HM4.out.own (k := g) rfl).2; omega)
                  clear hw5
                  by_cases hcmp : c1 ≤ c2
                  · have HTE2 := Lib.hid (HTE.out.trans (if_pos hcmp))
                    have HCC := Lib.hid hcmp
                    have HCB := Lib.hid HB2.out
                    have hfin := thingsA_step f (j - fr) HNE.out HTE2.out
                    rw [List.drop_drop] at hfin
                    have HNB : Hid (j < n2 ∧ n2 ≤ TO ∧ endL ((bl s).drop n2) = some (TO - n2) ∧ thingsA (((bl s).take TO).drop a0) noF (a0 - fr) = thingsA (((bl s).take TO).drop n2) (orF f c1 c2) (n2 - fr)) := Lib.hid (by
                      have h1 := HN1.out; have h2 := HN2.out; have h3 := HFJ.out
                      refine ⟨by omega, HG2.out.1, HG2.out.2.1, ?_⟩
                      rw [HTH.out, hfin, show j + (k1 + 1 + m2) = n2 by omega, show j - fr + (k1 + 1 + m2) = n2 - fr by omega])
                    clear hfin hcmp
                    have y0 : w5.cell? ⟨q9, 0, none⟩ = some (.int .u8 (c1 : Int)) := by rw [cell_of_row _ _ _ _ _ _ HQ9.out]; rfl
                    have z0 : w5.cell? ⟨q9 + 1, 0, none⟩ = some (.int .u8 (c2 : Int)) := by rw [cell_of_row _ _ _ _ _ _ HQ10.out]; rfl
                    have hcc : ¬ (c2 : Int) < (c1 : Int) := by have := HCC.out; omega
                    have hcc' : decide (c2 < c1) = false := decide_eq_false (by have := HCC.out; omega)
                    have wc1 := HC1.out
                    go_upto_region 24 with fail
                    clear y0 z0 hcc hcc' wc1
                    go_loopg [11] (c2 + 1 - c1) (fun G s11 wr => ∃ z : Nat, z ≤ c2 + 1 ∧ c1 ≤ z ∧ G = c2 + 1 - z ∧ s11 = .int .i64 z ∧ Mine w1 wr 4 (.slice (some ⟨g, 0, none⟩) 256 cp) (boV (boF fun y => f y || decide (c1 ≤ y ∧ y < z))) ∧ wr.heap[q9]? = some (.cells #[.int .u8 (c1 : Int), .int .i64 (n1 : Int)] 63 (0, 0)) ∧ wr.heap[q9 + 1]? = some (.cells #[.int .u8 (c2 : Int), .int .i64 (n2 : Int)] 63 (0, 0)))
                    case atStart =>
                      refine ⟨c1, by have := HCC.out; omega, Nat.le_refl _, rfl, rfl, ?_, HQ9.out, HQ10.out⟩
                      rw [show (fun y => f y || decide (c1 ≤ y ∧ y < c1)) = f by funext y; rw [decide_eq_false (by omega), Bool.or_false]]
                      exact HM5.out
                    case round =>
                      obtain ⟨z, hz1, hz2, rfl, rfl, hml, hq9, hq10⟩ := hrel
                      have HML := Lib.hid hml
                      have HL9 := Lib.hid hq9
                      have HL10 := Lib.hid hq10
                      have z0 : wr.cell? ⟨q9 + 1, 0, none⟩ = some (.int .u8 (c2 : Int)) := (cell_of_row _ (q9 + 1) 0 _ _ _ hq10).trans rfl
                      have z1 : wr.cell? ⟨q9 + 1, 1, none⟩ = some (.int .i64 (n2 : Int)) := (cell_of_row _ (q9 + 1) 1 _ _ _ hq10).trans rfl
                      clear hml hq9 hq10
                      by_cases hdz : z < c2 + 1
                      · have hdz1 : (z : Int) ≤ (c2 : Int) := by omega
                        have hdz1' : decide (z ≤ c2) = true := decide_eq_true (by omega)
                        have hz256 : z < 256 := by have := HCB.out; omega
                        have hzl : (z : Int) < 256 := by omega
                        have hzl' : decide (z < 256) = true := decide_eq_true hz256
                        have hz0 : (0 : Int) ≤ (z : Int) := by omega
                        have hcell := mine_cell HML.out (boV_get (l := boF fun y => f y || decide (c1 ≤ y ∧ y < z)) (j := z) (by rw [boF_length]; exact hz256))
                        have hfz := mine_unfz HML.out z
                        have hm6 := mine_set HML.out z (.bool true)
                        rw [boV_set, boF_set, show orF (fun y => f y || decide (c1 ≤ y ∧ y < z)) z z = (fun y => f y || decide (c1 ≤ y ∧ y < z + 1)) by
                          funext y
                          unfold orF
                          rw [Bool.or_assoc, ← Bool.decide_or]
                          congr 1
                          apply decide_eq_decide.2
                          omega] at hm6
                        have hq9' : ∀ u, (wr.setCell ⟨g, z, none⟩ u).heap[q9]? = some (.cells #[.int .u8 (c1 : Int), .int .i64 (n1 : Int)] 63 (0, 0)) := fun u => by rw [heap_setCell_other _ _ _ _ (by show q9 ≠ g; have := HGQ.out; omega)]; exact HL9.out
                        have hq10' : ∀ u, (wr.setCell ⟨g, z, none⟩ u).heap[q9 + 1]? = some (.cells #[.int .u8 (c2 : Int), .int .i64 (n2 : Int)] 63 (0, 0)) := fun u => by rw [heap_setCell_other _ _ _ _ (by show q9 + 1 ≠ g; have := HGQ.out; omega)]; exact HL10.out
                        have HN6 := Lib.hid (And.intro hm6 (And.intro (hq9' (.bool true)) (hq10' (.bool true))))
                        have wz : IntKind.i64.wrap ((z : Int) + 1) = ((z + 1 : Nat) : Int) := by rw [IntWalk.i64_in _ ⟨by omega, by omega⟩]; omega
                        obtain ⟨bb, hbb⟩ : ∃ b, b = (boF fun y => f y || decide (c1 ≤ y ∧ y < z)).getD z false := ⟨_, rfl⟩
                        rw [← hbb] at hcell
                        clear hm6 hq9' hq10' hbb z1
                        have wcb := HCB.out
                        go_upto_region 25 with fail
                        obtain ⟨w6, hw6⟩ : ∃ w6, w6 = wr.setCell ⟨g, z, none⟩ (.bool true) := ⟨_, rfl⟩
                        rw [← hw6] at HN6 ⊢
                        clear hw6 hcell hfz z0 wcb
                        go_wp2
                        go_roundg (c2 + 1 - (z + 1))
                        case measure => omega
                        case rel => exact ⟨z + 1, by omega, by omega, rfl, rfl, HN6.out.1, HN6.out.2.1, HN6.out.2.2⟩
                      · have hdz1 : ¬ (z : Int) ≤ (c2 : Int) := by omega
                        have hdz1' : decide (z ≤ c2) = false := decide_eq_false (by omega)
                        have HM7 : Hid (Mine w1 wr 4 (.slice (some ⟨g, 0, none⟩) 256 cp) (boV (boF (orF f c1 c2)))) := Lib.hid (by
                          rw [show orF f c1 c2 = (fun y => f y || decide (c1 ≤ y ∧ y < z)) by
                            funext y
                            unfold orF
                            congr 1
                            apply decide_eq_decide.2
                            omega]
                          exact HML.out)
                        clear hz1 hz2 hdz
                        have wcb := HCB.out
                        go_wp2
                        go_roundg (TO - n2)
                        case measure => have := HNB.out.1; have := HNB.out.2.1; omega
                        case rel => exact ⟨n2, HNB.out.2.1, rfl, rfl, _, HM7.out, HNB.out.2.2.1, by have := HNB.out.1; have := HFJ.out; omega, HNB.out.2.2.2⟩
                  · have HTE2 := Lib.hid (HTE.out.trans (if_neg hcmp))
                    have hbad := thingsA_bad f (j - fr) HNE.out HTE2.out
                    have HX3 := Lib.hid (by rw [HX2.out, HTH.out, hbad] : setL ((bl s).drop fr) = .bad (j - fr) 3)
                    have y0 : w5.cell? ⟨q9, 0, none⟩ = some (.int .u8 (c1 : Int)) := by rw [cell_of_row _ _ _ _ _ _ HQ9.out]; rfl
                    have z0 : w5.cell? ⟨q9 + 1, 0, none⟩ = some (.int .u8 (c2 : Int)) := by rw [cell_of_row _ _ _ _ _ _ HQ10.out]; rfl
                    have hccA : (c2 : Int) < (c1 : Int) := by omega
                    have hccA' : decide (c2 < c1) = true := decide_eq_true (by omega)
                    have HBX5 := Lib.hid (HM5.out.kept.same HB1.out (fun x => x))
                    have HKR5 := Lib.hid (HK1.out.trans HM5.out.kept)
                    clear hbad hcmp
                    go_wp2_with (refine wpList_store_row rfl 29 (.tmp 4) _ rfl rb #[.slice none 0 0, .int .i64 (j : Int), .int .i64 3] rfl rfl 29 #[.slice none 0 0, .int .i64 0, .int .i64 0] HBX5.out (got32_info _ _ _) rfl (all3 rfl rfl rfl) ?_)
                    refine bodyPost_ret (v := .agg #[.slice none 0 0, .int .i64 (j : Int), .int .i64 3]) (results_cell_row Try.results16 _ _ rb 29 _ (0, 0) _ rfl (setRow_heap _ _ _ _ _ _ HBX5.out) Try.underlying29 rfl (got32_info _ _ _)) rfl ?_
                    rw [HX3.out]
                    exact ⟨kept_row HKR5.out (by have := HRB.out; omega), by rw [show fr + (j - fr) = j by have := HFJ.out; omega]; rfl, by omega⟩
                · rw [if_neg hr] at hte
                  have HCC := Lib.hid (Nat.le_refl c1)
                  have HCB := HC1
                  have hfin := thingsA_step f (j - fr) HNE.out hte
                  rw [List.drop_drop] at hfin
                  have HNB : Hid (j < n1 ∧ n1 ≤ TO ∧ endL ((bl s).drop n1) = some (TO - n1) ∧ thingsA (((bl s).take TO).drop a0) noF (a0 - fr) = thingsA (((bl s).take TO).drop n1) (orF f c1 c1) (n1 - fr)) := Lib.hid (by
                    have h1 := HN1.out; have h3 := HFJ.out; have h4 := HK1P.out
                    refine ⟨by omega, HST.out.1, HST.out.2.1, ?_⟩
                    rw [HTH.out, hfin, show j + k1 = n1 by omega, show j - fr + k1 = n1 - fr by omega])
                  clear hfin hte
                  by_cases hr1 : n11 < TO
                  · have qa : (n11 : Int) < (TO : Int) := by omega
                    have qa' : decide (n11 < TO) = true := decide_eq_true hr1
                    have hi1 := HR.out n1 (by have := HTS.out; omega)
                    have hi2 := HR.out n11 (by have := HTS.out; omega)
                    by_cases hr2 : chr s n1 = 45
                    · have hr3 : chr s n11 = 45 := Classical.byContradiction fun e => hr ⟨hr1, hr2, e⟩
                      rw [hr2] at hi1
                      obtain ⟨x3, hx3⟩ : ∃ c, c = chr s n11 := ⟨_, rfl⟩
                      rw [← hx3] at hi2 hr3
                      have qc : ((x3 : Int) != 45) = false := bneF (by omega)
                      clear hst hr hr1 hr2 hr3 hx3 hn11
                      have y0 : w3.cell? ⟨q9, 0, none⟩ = some (.int .u8 (c1 : Int)) := by rw [cell_of_row _ _ _ _ _ _ HQ9.out]; rfl
                      have z0 : w3.cell? ⟨q9 + 1, 0, none⟩ = some (.int .u8 (c1 : Int)) := by rw [cell_of_row _ _ _ _ _ _ HQ10.out]; rfl
                      have hcc : ¬ (c1 : Int) < (c1 : Int) := by have := HCC.out; omega
                      have hcc' : decide (c1 < c1) = false := decide_eq_false (by have := HCC.out; omega)
                      have wc1 := HC1.out
                      go_upto_region 24 with fail
                      clear y0 z0 hcc hcc' wc1
                      go_loopg [11] (c1 + 1 - c1) (fun G s11 wr => ∃ z : Nat, z ≤ c1 + 1 ∧ c1 ≤ z ∧ G = c1 + 1 - z ∧ s11 = .int .i64 z ∧ Mine w1 wr 4 (.slice (some ⟨g, 0, none⟩) 256 cp) (boV (boF fun y => f y || decide (c1 ≤ y ∧ y < z))) ∧ wr.heap[q9]? = some (.cells #[.int .u8 (c1 : Int), .int .i64 (n1 : Int)] 63 (0, 0)) ∧ wr.heap[q9 + 1]? = some (.cells #[.int .u8 (c1 : Int), .int .i64 (n1 : Int)] 63 (0, 0)))
                      case atStart =>
                        refine ⟨c1, by have := HCC.out; omega, Nat.le_refl _, rfl, rfl, ?_, HQ9.out, HQ10.out⟩
                        rw [show (fun y => f y || decide (c1 ≤ y ∧ y < c1)) = f by funext y; rw [decide_eq_false (by omega), Bool.or_false]]
                        exact HM5.out
                      case round =>
                        obtain ⟨z, hz1, hz2, rfl, rfl, hml, hq9, hq10⟩ := hrel
                        have HML := Lib.hid hml
                        have HL9 := Lib.hid hq9
                        have HL10 := Lib.hid hq10
                        have z0 : wr.cell? ⟨q9 + 1, 0, none⟩ = some (.int .u8 (c1 : Int)) := (cell_of_row _ (q9 + 1) 0 _ _ _ hq10).trans rfl
                        have z1 : wr.cell? ⟨q9 + 1, 1, none⟩ = some (.int .i64 (n1 : Int)) := (cell_of_row _ (q9 + 1) 1 _ _ _ hq10).trans rfl
                        clear hml hq9 hq10
                        by_cases hdz : z < c1 + 1
                        · have hdz1 : (z : Int) ≤ (c1 : Int) := by omega
                          have hdz1' : decide (z ≤ c1) = true := decide_eq_true (by omega)
                          have hz256 : z < 256 := by have := HCB.out; omega
                          have hzl : (z : Int) < 256 := by omega
                          have hzl' : decide (z < 256) = true := decide_eq_true hz256
                          have hz0 : (0 : Int) ≤ (z : Int) := by omega
                          have hcell := mine_cell HML.out (boV_get (l := boF fun y => f y || decide (c1 ≤ y ∧ y < z)) (j := z) (by rw [boF_length]; exact hz256))
                          have hfz := mine_unfz HML.out z
                          have hm6 := mine_set HML.out z (.bool true)
                          rw [boV_set, boF_set, show orF (fun y => f y || decide (c1 ≤ y ∧ y < z)) z z = (fun y => f y || decide (c1 ≤ y ∧ y < z + 1)) by
                            funext y
                            unfold orF
                            rw [Bool.or_assoc, ← Bool.decide_or]
                            congr 1
                            apply decide_eq_decide.2
                            omega] at hm6
                          have hq9' : ∀ u, (wr.setCell ⟨g, z, none⟩ u).heap[q9]? = some (.cells #[.int .u8 (c1 : Int), .int .i64 (n1 : Int)] 63 (0, 0)) := fun u => by rw [heap_setCell_other _ _ _ _ (by show q9 ≠ g; have := HGQ.out; omega)]; exact HL9.out
                          have hq10' : ∀ u, (wr.setCell ⟨g, z, none⟩ u).heap[q9 + 1]? = some (.cells #[.int .u8 (c1 : Int), .int .i64 (n1 : Int)] 63 (0, 0)) := fun u => by rw [heap_setCell_other _ _ _ _ (by show q9 + 1 ≠ g; have := HGQ.out; omega)]; exact HL10.out
                          have HN6 := Lib.hid (And.intro hm6 (And.intro (hq9' (.bool true)) (hq10' (.bool true))))
                          have wz : IntKind.i64.wrap ((z : Int) + 1) = ((z + 1 : Nat) : Int) := by rw [IntWalk.i64_in _ ⟨by omega, by omega⟩]; omega
                          obtain ⟨bb, hbb⟩ : ∃ b, b = (boF fun y => f y || decide (c1 ≤ y ∧ y < z)).getD z false := ⟨_, rfl⟩
                          rw [← hbb] at hcell
                          clear hm6 hq9' hq10' hbb z1
                          have wcb := HCB.out
                          go_upto_region 25 with fail
                          obtain ⟨w6, hw6⟩ : ∃ w6, w6 = wr.setCell ⟨g, z, none⟩ (.bool true) := ⟨_, rfl⟩
                          rw [← hw6] at HN6 ⊢
                          clear hw6 hcell hfz z0 wcb
                          go_wp2
                          go_roundg (c1 + 1 - (z + 1))
                          case measure => omega
                          case rel => exact ⟨z + 1, by omega, by omega, rfl, rfl, HN6.out.1, HN6.out.2.1, HN6.out.2.2⟩
                        · have hdz1 : ¬ (z : Int) ≤ (c1 : Int) := by omega
                          have hdz1' : decide (z ≤ c1) = false := decide_eq_false (by omega)
                          have HM7 : Hid (Mine w1 wr 4 (.slice (some ⟨g, 0, none⟩) 256 cp) (boV (boF (orF f c1 c1)))) := Lib.hid (by
                            rw [show orF f c1 c1 = (fun y => f y || decide (c1 ≤ y ∧ y < z)) by
                              funext y
                              unfold orF
                              congr 1
                              apply decide_eq_decide.2
                              omega]
                            exact HML.out)
                          clear hz1 hz2 hdz
                          have wcb := HCB.out
                          go_wp2
                          go_roundg (TO - n1)
                          case measure => have := HNB.out.1; have := HNB.out.2.1; omega
                          case rel => exact ⟨n1, HNB.out.2.1, rfl, rfl, _, HM7.out, HNB.out.2.2.1, by have := HNB.out.1; have := HFJ.out; omega, HNB.out.2.2.2⟩
                    · obtain ⟨x1, hx1⟩ : ∃ c, c = chr s n1 := ⟨_, rfl⟩
                      rw [← hx1] at hi1 hr2
                      have qb : ((x1 : Int) == 45) = false := by simp; omega
                      have qb' : (x1 == 45) = false := by simp [hr2]
                      clear hst hr hr1 hr2 hx1
                      have y0 : w3.cell? ⟨q9, 0, none⟩ = some (.int .u8 (c1 : Int)) := by rw [cell_of_row _ _ _ _ _ _ HQ9.out]; rfl
                      have z0 : w3.cell? ⟨q9 + 1, 0, none⟩ = some (.int .u8 (c1 : Int)) := by rw [cell_of_row _ _ _ _ _ _ HQ10.out]; rfl
                      have hcc : ¬ (c1 : Int) < (c1 : Int) := by have := HCC.out; omega
                      have hcc' : decide (c1 < c1) = false := decide_eq_false (by have := HCC.out; omega)
                      have wc1 := HC1.out
                      go_upto_region 24 with fail
                      clear y0 z0 hcc hcc' wc1
                      go_loopg [11] (c1 + 1 - c1) (fun G s11 wr => ∃ z : Nat, z ≤ c1 + 1 ∧ c1 ≤ z ∧ G = c1 + 1 - z ∧ s11 = .int .i64 z ∧ Mine w1 wr 4 (.slice (some ⟨g, 0, none⟩) 256 cp) (boV (boF fun y => f y || decide (c1 ≤ y ∧ y < z))) ∧ wr.heap[q9]? = some (.cells #[.int .u8 (c1 : Int), .int .i64 (n1 : Int)] 63 (0, 0)) ∧ wr.heap[q9 + 1]? = some (.cells #[.int .u8 (c1 : Int), .int .i64 (n1 : Int)] 63 (0, 0)))
                      case atStart =>
                        refine ⟨c1, by have := HCC.out; omega, Nat.le_refl _, rfl, rfl, ?_, HQ9.out, HQ10.out⟩
                        rw [show (fun y => f y || decide (c1 ≤ y ∧ y < c1)) = f by funext y; rw [decide_eq_false (by omega), Bool.or_false]]
                        exact HM5.out
                      case round =>
                        obtain ⟨z, hz1, hz2, rfl, rfl, hml, hq9, hq10⟩ := hrel
                        have HML := Lib.hid hml
                        have HL9 := Lib.hid hq9
                        have HL10 := Lib.hid hq10
                        have z0 : wr.cell? ⟨q9 + 1, 0, none⟩ = some (.int .u8 (c1 : Int)) := (cell_of_row _ (q9 + 1) 0 _ _ _ hq10).trans rfl
                        have z1 : wr.cell? ⟨q9 + 1, 1, none⟩ = some (.int .i64 (n1 : Int)) := (cell_of_row _ (q9 + 1) 1 _ _ _ hq10).trans rfl
                        clear hml hq9 hq10
                        by_cases hdz : z < c1 + 1
                        · have hdz1 : (z : Int) ≤ (c1 : Int) := by omega
                          have hdz1' : decide (z ≤ c1) = true := decide_eq_true (by omega)
                          have hz256 : z < 256 := by have := HCB.out; omega
                          have hzl : (z : Int) < 256 := by omega
                          have hzl' : decide (z < 256) = true := decide_eq_true hz256
                          have hz0 : (0 : Int) ≤ (z : Int) := by omega
                          have hcell := mine_cell HML.out (boV_get (l := boF fun y => f y || decide (c1 ≤ y ∧ y < z)) (j := z) (by rw [boF_length]; exact hz256))
                          have hfz := mine_unfz HML.out z
                          have hm6 := mine_set HML.out z (.bool true)
                          rw [boV_set, boF_set, show orF (fun y => f y || decide (c1 ≤ y ∧ y < z)) z z = (fun y => f y || decide (c1 ≤ y ∧ y < z + 1)) by
                            funext y
                            unfold orF
                            rw [Bool.or_assoc, ← Bool.decide_or]
                            congr 1
                            apply decide_eq_decide.2
                            omega] at hm6
                          have hq9' : ∀ u, (wr.setCell ⟨g, z, none⟩ u).heap[q9]? = some (.cells #[.int .u8 (c1 : Int), .int .i64 (n1 : Int)] 63 (0, 0)) := fun u => by rw [heap_setCell_other _ _ _ _ (by show q9 ≠ g; have := HGQ.out; omega)]; exact HL9.out
                          have hq10' : ∀ u, (wr.setCell ⟨g, z, none⟩ u).heap[q9 + 1]? = some (.cells #[.int .u8 (c1 : Int), .int .i64 (n1 : Int)] 63 (0, 0)) := fun u => by rw [heap_setCell_other _ _ _ _ (by show q9 + 1 ≠ g; have := HGQ.out; omega)]; exact HL10.out
                          have HN6 := Lib.hid (And.intro hm6 (And.intro (hq9' (.bool true)) (hq10' (.bool true))))
                          have wz : IntKind.i64.wrap ((z : Int) + 1) = ((z + 1 : Nat) : Int) := by rw [IntWalk.i64_in _ ⟨by omega, by omega⟩]; omega
                          obtain ⟨bb, hbb⟩ : ∃ b, b = (boF fun y => f y || decide (c1 ≤ y ∧ y < z)).getD z false := ⟨_, rfl⟩
                          rw [← hbb] at hcell
                          clear hm6 hq9' hq10' hbb z1
                          have wcb := HCB.out
                          go_upto_region 25 with fail
                          obtain ⟨w6, hw6⟩ : ∃ w6, w6 = wr.setCell ⟨g, z, none⟩ (.bool true) := ⟨_, rfl⟩
                          rw [← hw6] at HN6 ⊢
                          clear hw6 hcell hfz z0 wcb
                          go_wp2
                          go_roundg (c1 + 1 - (z + 1))
                          case measure => omega
                          case rel => exact ⟨z + 1, by omega, by omega, rfl, rfl, HN6.out.1, HN6.out.2.1, HN6.out.2.2⟩
                        · have hdz1 : ¬ (z : Int) ≤ (c1 : Int) := by omega
                          have hdz1' : decide (z ≤ c1) = false := decide_eq_false (by omega)
                          have HM7 : Hid (Mine w1 wr 4 (.slice (some ⟨g, 0, none⟩) 256 cp) (boV (boF (orF f c1 c1)))) := Lib.hid (by
                            rw [show orF f c1 c1 = (fun y => f y || decide (c1 ≤ y ∧ y < z)) by
                              funext y
                              unfold orF
                              congr 1
                              apply decide_eq_decide.2
                              omega]
                            exact HML.out)
                          clear hz1 hz2 hdz
                          have wcb := HCB.out
                          go_wp2
                          go_roundg (TO - n1)
                          case measure => have := HNB.out.1; have := HNB.out.2.1; omega
                          case rel => exact ⟨n1, HNB.out.2.1, rfl, rfl, _, HM7.out, HNB.out.2.2.1, by have := HNB.out.1; have := HFJ.out; omega, HNB.out.2.2.2⟩
                  · have qa : ¬ (n11 : Int) < (TO : Int) := by omega
                    have qa' : decide (n11 < TO) = false := decide_eq_false hr1
                    clear hst hr hr1
                    have y0 : w3.cell? ⟨q9, 0, none⟩ = some (.int .u8 (c1 : Int)) := by rw [cell_of_row _ _ _ _ _ _ HQ9.out]; rfl
                    have z0 : w3.cell? ⟨q9 + 1, 0, none⟩ = some (.int .u8 (c1 : Int)) := by rw [cell_of_row _ _ _ _ _ _ HQ10.out]; rfl
                    have hcc : ¬ (c1 : Int) < (c1 : Int) := by have := HCC.out; omega
                    have hcc' : decide (c1 < c1) = false := decide_eq_false (by have := HCC.out; omega)
                    have wc1 := HC1.out
                    go_upto_region 24 with fail
                    clear y0 z0 hcc hcc' wc1
                    go_loopg [11] (c1 + 1 - c1) (fun G s11 wr => ∃ z : Nat, z ≤ c1 + 1 ∧ c1 ≤ z ∧ G = c1 + 1 - z ∧ s11 = .int .i64 z ∧ Mine w1 wr 4 (.slice (some ⟨g, 0, none⟩) 256 cp) (boV (boF fun y => f y || decide (c1 ≤ y ∧ y < z))) ∧ wr.heap[q9]? = some (.cells #[.int .u8 (c1 : Int), .int .i64 (n1 : Int)] 63 (0, 0)) ∧ wr.heap[q9 + 1]? = some (.cells #[.int .u8 (c1 : Int), .int .i64 (n1 : Int)] 63 (0, 0)))
                    case atStart =>
                      refine ⟨c1, by have := HCC.out; omega, Nat.le_refl _, rfl, rfl, ?_, HQ9.out, HQ10.out⟩
                      rw [show (fun y => f y || decide (c1 ≤ y ∧ y < c1)) = f by funext y; rw [decide_eq_false (by omega), Bool.or_false]]
                      exact HM5.out
                    case round =>
                      obtain ⟨z, hz1, hz2, rfl, rfl, hml, hq9, hq10⟩ := hrel
                      have HML := Lib.hid hml
                      have HL9 := Lib.hid hq9
                      have HL10 := Lib.hid hq10
                      have z0 : wr.cell? ⟨q9 + 1, 0, none⟩ = some (.int .u8 (c1 : Int)) := (cell_of_row _ (q9 + 1) 0 _ _ _ hq10).trans rfl
                      have z1 : wr.cell? ⟨q9 + 1, 1, none⟩ = some (.int .i64 (n1 : Int)) := (cell_of_row _ (q9 + 1) 1 _ _ _ hq10).trans rfl
                      clear hml hq9 hq10
                      by_cases hdz : z < c1 + 1
                      · have hdz1 : (z : Int) ≤ (c1 : Int) := by omega
                        have hdz1' : decide (z ≤ c1) = true := decide_eq_true (by omega)
                        have hz256 : z < 256 := by have := HCB.out; omega
                        have hzl : (z : Int) < 256 := by omega
                        have hzl' : decide (z < 256) = true := decide_eq_true hz256
                        have hz0 : (0 : Int) ≤ (z : Int) := by omega
                        have hcell := mine_cell HML.out (boV_get (l := boF fun y => f y || decide (c1 ≤ y ∧ y < z)) (j := z) (by rw [boF_length]; exact hz256))
                        have hfz := mine_unfz HML.out z
                        have hm6 := mine_set HML.out z (.bool true)
                        rw [boV_set, boF_set, show orF (fun y => f y || decide (c1 ≤ y ∧ y < z)) z z = (fun y => f y || decide (c1 ≤ y ∧ y < z + 1)) by
                          funext y
                          unfold orF
                          rw [Bool.or_assoc, ← Bool.decide_or]
                          congr 1
                          apply decide_eq_decide.2
                          omega] at hm6
                        have hq9' : ∀ u, (wr.setCell ⟨g, z, none⟩ u).heap[q9]? = some (.cells #[.int .u8 (c1 : Int), .int .i64 (n1 : Int)] 63 (0, 0)) := fun u => by rw [heap_setCell_other _ _ _ _ (by show q9 ≠ g; have := HGQ.out; omega)]; exact HL9.out
                        have hq10' : ∀ u, (wr.setCell ⟨g, z, none⟩ u).heap[q9 + 1]? = some (.cells #[.int .u8 (c1 : Int), .int .i64 (n1 : Int)] 63 (0, 0)) := fun u => by rw [heap_setCell_other _ _ _ _ (by show q9 + 1 ≠ g; have := HGQ.out; omega)]; exact HL10.out
                        have HN6 := Lib.hid (And.intro hm6 (And.intro (hq9' (.bool true)) (hq10' (.bool true))))
                        have wz : IntKind.i64.wrap ((z : Int) + 1) = ((z + 1 : Nat) : Int) := by rw [IntWalk.i64_in _ ⟨by omega, by omega⟩]; omega
                        obtain ⟨bb, hbb⟩ : ∃ b, b = (boF fun y => f y || decide (c1 ≤ y ∧ y < z)).getD z false := ⟨_, rfl⟩
                        rw [← hbb] at hcell
                        clear hm6 hq9' hq10' hbb z1
                        have wcb := HCB.out
                        go_upto_region 25 with fail
                        obtain ⟨w6, hw6⟩ : ∃ w6, w6 = wr.setCell ⟨g, z, none⟩ (.bool true) := ⟨_, rfl⟩
                        rw [← hw6] at HN6 ⊢
                        clear hw6 hcell hfz z0 wcb
                        go_wp2
                        go_roundg (c1 + 1 - (z + 1))
                        case measure => omega
                        case rel => exact ⟨z + 1, by omega, by omega, rfl, rfl, HN6.out.1, HN6.out.2.1, HN6.out.2.2⟩
                      · have hdz1 : ¬ (z : Int) ≤ (c1 : Int) := by omega
                        have hdz1' : decide (z ≤ c1) = false := decide_eq_false (by omega)
                        have HM7 : Hid (Mine w1 wr 4 (.slice (some ⟨g, 0, none⟩) 256 cp) (boV (boF (orF f c1 c1)))) := Lib.hid (by
                          rw [show orF f c1 c1 = (fun y => f y || decide (c1 ≤ y ∧ y < z)) by
                            funext y
                            unfold orF
                            congr 1
                            apply decide_eq_decide.2
                            omega]
                          exact HML.out)
                        clear hz1 hz2 hdz
                        have wcb := HCB.out
                        go_wp2
                        go_roundg (TO - n1)
                        case measure => have := HNB.out.1; have := HNB.out.2.1; omega
                        case rel => exact ⟨n1, HNB.out.2.1, rfl, rfl, _, HM7.out, HNB.out.2.2.1, by have := HNB.out.1; have := HFJ.out; omega, HNB.out.2.2.2⟩
            · obtain rfl : j = TO := by omega
              have hdj : ¬ (j : Int) < (j : Int) := by omega
              have hdj' : decide (j < j) = false := decide_eq_false hd
              have hnil : ((bl s).take j).drop j = [] := List.drop_eq_nil_of_le (by rw [List.length_take]; omega)
              have hfin := HTH.out
              rw [hnil, thingsA_nil] at hfin
              have wj : IntKind.i64.wrap ((j : Int) + 1) = ((j + 1 : Nat) : Int) := by rw [IntWalk.i64_in _ ⟨by omega, by have := HS.out; have := HTS.out; omega⟩]; omega
              obtain ⟨j1, hj1⟩ : ∃ k, k = j + 1 := ⟨_, rfl⟩
              rw [← hj1] at wj
              have HJ1 := Lib.hid (show fr + (j - fr + 1) = j1 by have := HFJ.out; omega)
              have HX3 := Lib.hid (by rw [HX2.out, hfin]; dsimp only; rw [if_neg HG33.out] : setL ((bl s).drop fr) = .good ⟨2, 0, f⟩ (j - fr + 1))
              have HBF := Lib.hid (((Kept.refl (fun _ => False) wr).alloc (.cells #[.bool false, .bool false, .slice (some ⟨g, 0, none⟩) 256 cp, .int .u8 0] 53)).same HBX.out (fun x => x))
              clear hnil hfin hj1
              go_wp2_with (first
                | (refine wpList_store_row rfl 29 (.tmp 4) _ rfl rb #[.slice (some ⟨wr.heap.size, 0, none⟩) 1 1, .int .i64 (j1 : Int), .int .i64 0] rfl rfl 29 #[.slice none 0 0, .int .i64 0, .int .i64 0] HBF.out (got32_info _ _ _) rfl (all3 rfl rfl rfl) ?_))
              refine bodyPost_ret (v := .agg #[.slice (some ⟨wr.heap.size, 0, none⟩) 1 1, .int .i64 (j1 : Int), .int .i64 0]) (results_cell_row Try.results16 _ _ rb 29 _ (0, 0) _ rfl (setRow_heap _ _ _ _ _ _ HBF.out) Try.underlying29 rfl (got32_info _ _ _)) rfl ?_
              rw [HX3.out]
              have hkA : Kept (fun k => k = rb) ((wr.alloc (.cells #[.bool false, .bool false, .slice (some ⟨g, 0, none⟩) 256 cp, .int .u8 0] 53))) (((wr.alloc (.cells #[.bool false, .bool false, .slice (some ⟨g, 0, none⟩) 256 cp, .int .u8 0] 53))).setRow rb #[.slice (some ⟨wr.heap.size, 0, none⟩) 1 1, .int .i64 (j1 : Int), .int .i64 0]) := ⟨rfl, rfl, rfl, by simp, fun k _ hk => setRow_other _ _ _ _ (fun e => hk e)⟩
              have hrne : wr.heap.size ≠ rb := by have := HLT.out; have := HM.out.kept.size; omega
              refine ⟨kept_row ((HK1.out.trans HM.out.kept).alloc _) (by have := HRB.out; omega), wr.heap.size, g, cp, by rw [HJ1.out], ?_, ?_⟩
              · intro _
                refine ⟨wr.heap.size, 0, rfl, fun i p hi jj u hu => ?_⟩
                have hi0 : i = 0 := by have := (List.getElem?_eq_some_iff.1 hi).1; simp at this; omega
                subst hi0
                simp only [List.getElem?_cons_zero, Option.some.injEq] at hi
                subst hi
                refine hkA.cell ?_ hrne
                rw [cell_of_row _ _ _ _ _ _ (heap_alloc_new _ _)]
                simpa [cellsRP] using hu
              · refine ((inAt_mine HM.out ⟨2, 0, f⟩ (fun x _ => rfl)).kept ((Kept.refl (fun _ => False) _).alloc _)).keptS hkA (fun g' cs' hb' e => ?_)
                rw [e, HBF.out] at hb'
                injection hb' with hb'
                injection hb' with _ hb' _
                exact absurd hb' (by decide)
  · have q0 : ¬ (f1 : Int) < (s.size : Int) := by omega
    have q0' : decide (f1 < s.size) = false := decide_eq_false h0
    have hE : endL ((bl s).drop f1) = none := by rw [List.drop_eq_nil_of_le (by have := HBL.out; omega)]; rfl
    have HX := Lib.hid (set_none (B := bl s) (fr := fr) (a := f1) (by
      have h2 : ((bl s).drop fr).getD 1 0 = 0 := by rw [getD_drop, List.getD_eq_getElem?_getD, List.getElem?_eq_none (by have := HBL.out; omega)]; rfl
      unfold setFrom; rw [h2, if_neg (by omega)]; exact hf1) hE)
    have HEND := Lib.hid (fun w => rend_any s f1 w (by omega) HS.out)
    rw [hE] at HEND
    clear hs hf h0 hf1 hf2 wf2 hE
    go_enter Try.func16, Try.ntmps16
    go_upto_region 1 with fail
    rw [HW1.out, ← hrb]
    clear hrb
    go_wp2_with fail
    refine (HEND.out _).mono ?_
    rintro e w' ⟨rfl, rfl⟩
    go_wp2_with (refine wpList_store_row rfl 29 (.tmp 4) _ rfl rb #[.slice none 0 0, .int .i64 (fr : Int), .int .i64 2] rfl rfl 29 #[.slice none 0 0, .int .i64 0, .int .i64 0] HB1.out (got32_info _ _ _) rfl (all3 rfl rfl rfl) ?_)
    refine bodyPost_ret (v := .agg #[.slice none 0 0, .int .i64 (fr : Int), .int .i64 2]) (results_cell_row Try.results16 _ _ rb 29 _ (0, 0) _ rfl (setRow_heap _ _ _ _ _ _ HB1.out) Try.underlying29 rfl (got32_info _ _ _)) rfl ?_
    rw [HX.out]
    exact ⟨kept_row HK1.out (by have := HRB.out; omega), by simp, by omega⟩
end Go.Proofs.Ytjbjfdmdicfjfaa

