/- Layer 16: Together (written by tools/gen_XOJ.py). -/
import Derived.Test.YtiiibhdohlpodaaOI
import Derived.Test.YtiiibhdohlpodaaO5
import Derived.Test.YtiiibhdohlpodaaOX
namespace Go.Proofs.Ytiiibhdohlpodaa
open Go.RowKit
attribute [local go_sem ↓] Go.wp_at_zero Go.wp_at_succ

set_option maxHeartbeats 16000000 in
set_option maxRecDepth 100000 in
theorem together_any (a b : HistV) (ap an bp bn : Value) (most : Int) (w : World) (ha : HistIn w a ap an) (hb : HistIn w b bp bn) (la1 : a.pl.length ≤ 1000000) (la2 : a.nl.length ≤ 1000000) (lb1 : b.pl.length ≤ 1000000) (lb2 : b.nl.length ≤ 1000000) :
    Calls Try.prog 27 #[histV a ap an, histV b bp bn, .int .i64 most] w (TogOut w (togH a b most)) := by
  obtain ⟨q, hq⟩ : ∃ q, q = w.heap.size := ⟨_, rfl⟩
  have HLV := Lib.hid (fun w' (k : Kept (fun _ => False) w w') => foldLevel_any a b _ _ _ _ w' (ha.at_.on k) (hb.at_.on k) ha.ok hb.ok la1 la2 lb1 lb2)
  rw [histV_A, histV_A] at HLV ⊢
  obtain ⟨CA, hCA⟩ : ∃ c, c = histA a ap an := ⟨_, rfl⟩
  obtain ⟨CB, hCB⟩ : ∃ c, c = histA b bp bn := ⟨_, rfl⟩
  rw [← hCA, ← hCB] at HLV
  rw [← hCA, ← hCB]
  have HIA : Hid ((Try.prog.info? 30).map (·.size) = some CA.size ∧ (Try.prog.info? 30).map (·.size) = some CB.size) := Lib.hid (by rw [hCA, hCB]; exact ⟨hist_info, hist_info⟩)
  obtain ⟨w2, hw2⟩ : ∃ w2, w2 = ((w.alloc (.cells CA 30)).alloc (.cells CB 30)).alloc (.cells #[.int .i64 0, .int .u64 0, .int .i64 0, .slice none 0 0, .int .i64 0, .slice none 0 0] 30) := ⟨_, rfl⟩
  have k2 : Kept (fun _ => False) w w2 := by rw [hw2]; exact (((Kept.refl _ _).alloc _).alloc _).alloc _
  have hb1 : w2.heap[q]? = some (.cells CA 30 (0, 0)) ∧ w2.heap[q + 1]? = some (.cells CB 30 (0, 0)) ∧ w2.heap[q + 1 + 1]? = some (.cells #[.int .i64 0, .int .u64 0, .int .i64 0, .slice none 0 0, .int .i64 0, .slice none 0 0] 30 (0, 0)) := by rw [hw2, hq]; exact ⟨(((Kept.refl (fun _ => False) _).alloc _).alloc _).same (heap_alloc_new w _) (fun x => x), ((Kept.refl (fun _ => False) _).alloc _).same (box_second2 w _ _) (fun x => x), heap_third w _ _ _⟩
  have HBX : Hid (∀ w', Kept (fun _ => False) w2 w' → w'.heap[q]? = some (.cells CA 30 (0, 0)) ∧ w'.heap[q + 1]? = some (.cells CB 30 (0, 0)) ∧ w'.heap[q + 1 + 1]? = some (.cells #[.int .i64 0, .int .u64 0, .int .i64 0, .slice none 0 0, .int .i64 0, .slice none 0 0] 30 (0, 0))) := Lib.hid (fun w' k => ⟨k.same hb1.1 (fun x => x), k.same hb1.2.1 (fun x => x), k.same hb1.2.2 (fun x => x)⟩)
  have HW2 := Lib.hid (And.intro hw2 hq)
  have HK02 := Lib.hid k2
  have HGE : Hid (w.heap.size ≤ q) := Lib.hid (by omega)
  have HQL : Hid (q + 1 + 1 < w2.heap.size) := Lib.hid (Array.getElem?_eq_some_iff.1 hb1.2.2).1
  unfold togH
  obtain ⟨X, hX⟩ : ∃ h, h = levX a b := ⟨_, rfl⟩
  obtain ⟨Y, hY⟩ : ∃ h, h = levY a b := ⟨_, rfl⟩
  rw [← hX, ← hY] at HLV
  by_cases hE : levE a b = 0
  case neg =>
    rw [if_neg hE]
    obtain ⟨n, hn⟩ : ∃ n : Int, n = ((levE a b : Nat) : Int) := ⟨_, rfl⟩
    obtain ⟨n, hn⟩ : ∃ n : Int, n = ((levE a b : Nat) : Int) := ⟨_, rfl⟩
    unfold LevOut at HLV
    rw [← hn] at HLV
    have q1 : (n == 0) = false := by rw [beq_eq_false_iff_ne]; omega
    clear hn hE hX hY hCA hCB hw2 hq k2 hb1 ha hb la1 la2 lb1 lb2
    go_enter Try.func27, Try.ntmps27
    go_upto_region 1 with fail
    rw [← HW2.out.1, ← HW2.out.2]
    go_wp2_with (first
      | (refine wpList_load_row rfl 30 (.tmp 3) rfl q rfl 30 _ (0, 0) _ (HBX.out w2 (Kept.refl _ _)).1 Try.underlying30 rfl HIA.out.1 ?_)
      | (refine wpList_load_row rfl 30 (.tmp 4) rfl (q + 1) rfl 30 _ (0, 0) _ (HBX.out w2 (Kept.refl _ _)).2.1 Try.underlying30 rfl HIA.out.2 ?_)
      | fail)
    refine (HLV.out w2 HK02.out).mono ?_
    rintro e w3 ⟨p1, n1, p2, n2, rfl, m1, m2, m3, m4⟩
    obtain ⟨a1, b1, c1, d1, rfl, rfl, hn1⟩ := HN.of m1 m2
    obtain ⟨a2, b2, c2, d2, rfl, rfl, hn2⟩ := HN.of m3 m4
    have HN1 := Lib.hid hn1
    have HN2 := Lib.hid hn2
    have HK3 := Lib.hid hn1.mp.kept
    clear m1 m2 m3 m4 hn1 hn2
    rw [histV_A, histV_A]
    obtain ⟨g8, hg8⟩ : ∃ g, g = w3.heap.size := ⟨_, rfl⟩
    have HG8 := Lib.hid hg8
    clear hg8
    have HA : Hid (((w3.alloc (.cells #[.int .i64 0, .int .u64 0, .int .i64 0, .slice none 0 0, .int .i64 0, .slice none 0 0] 30)).alloc (.cells #[.int .i64 0, .int .u64 0, .int .i64 0, .slice none 0 0, .int .i64 0, .slice none 0 0] 30)).heap[w3.heap.size]? = some (.cells #[.int .i64 0, .int .u64 0, .int .i64 0, .slice none 0 0, .int .i64 0, .slice none 0 0] 30 (0, 0)) ∧ ((w3.alloc (.cells #[.int .i64 0, .int .u64 0, .int .i64 0, .slice none 0 0, .int .i64 0, .slice none 0 0] 30)).alloc (.cells #[.int .i64 0, .int .u64 0, .int .i64 0, .slice none 0 0, .int .i64 0, .slice none 0 0] 30)).heap[w3.heap.size + 1]? = some (.cells #[.int .i64 0, .int .u64 0, .int .i64 0, .slice none 0 0, .int .i64 0, .slice none 0 0] 30 (0, 0)) ∧ Kept (fun _ => False) w3 ((w3.alloc (.cells #[.int .i64 0, .int .u64 0, .int .i64 0, .slice none 0 0, .int .i64 0, .slice none 0 0] 30)).alloc (.cells #[.int .i64 0, .int .u64 0, .int .i64 0, .slice none 0 0, .int .i64 0, .slice none 0 0] 30))) := Lib.hid ⟨((Kept.refl (fun _ => False) _).alloc _).same (heap_alloc_new w3 _) (fun x => x), box_second2 w3 _ _, ((Kept.refl _ _).alloc _).alloc _⟩
    go_upto_region 2 with (first | (refine wpList_store_to rfl 30 (.tmp 8) _ rfl w3.heap.size (histA X (.slice a1 X.pl.length c1) (.slice b1 X.nl.length d1)) rfl rfl 30 #[.int .i64 0, .int .u64 0, .int .i64 0, .slice none 0 0, .int .i64 0, .slice none 0 0] HA.out.1 hist_info rfl (histC_one ⟨rfl, rfl⟩) ?_; intro w4 hb4 k4; have HB4 := Lib.hid hb4; have HK4 := Lib.hid k4; clear hb4 k4) | (refine wpList_store_to rfl 30 (.tmp 9) _ rfl (w3.heap.size + 1) (histA Y (.slice a2 Y.pl.length c2) (.slice b2 Y.nl.length d2)) rfl rfl 30 #[.int .i64 0, .int .u64 0, .int .i64 0, .slice none 0 0, .int .i64 0, .slice none 0 0] (HK4.out.same HA.out.2.1 (by omega)) hist_info rfl (histC_one ⟨rfl, rfl⟩) ?_; intro w5 hb5 k5; have HB5 := Lib.hid hb5; have HK5 := Lib.hid k5; clear hb5 k5))
    rw [← HG8.out]
    have HK35 : Hid (Kept (fun _ => False) w3 w5) := Lib.hid ((HA.out.2.2.newer HK4.out (fun i e => by omega)).newer HK5.out (fun i e => by omega))
    have HX5 : Hid (w5.heap[g8]? = some (.cells (histA X (.slice a1 X.pl.length c1) (.slice b1 X.nl.length d1)) 30 (0, 0))) := Lib.hid (by rw [HG8.out]; exact HK5.out.same HB4.out (by omega))
    have HY5 : Hid (w5.heap[g8 + 1]? = some (.cells (histA Y (.slice a2 Y.pl.length c2) (.slice b2 Y.nl.length d2)) 30 (0, 0))) := Lib.hid (by rw [HG8.out]; exact HB5.out)
    have HG2 : Hid (w2.heap.size ≤ g8) := Lib.hid (by rw [HG8.out]; exact HK3.out.size)
    have HK25 := Lib.hid (HK3.out.trans HK35.out)
    have HN1b := Lib.hid (HN1.out.on HK35.out)
    have HN2b := Lib.hid (HN2.out.on HK35.out)
    clear HA HB4 HB5 HK4 HK5 HN1 HN2
    go_wp2
    go_loopg [] 0 (fun g wr => g = 0 ∧ w5 = wr)
    case atStart => exact ⟨rfl, rfl⟩
    case round =>
      obtain ⟨rfl, rfl⟩ := hrel
      go_wp2_with (first
        | (refine wpList_store_to rfl 30 (.tmp 6) _ rfl (q + 1 + 1) #[.int .i64 0, .int .u64 0, .int .i64 0, .slice none 0 0, .int .i64 0, .slice none 0 0] rfl rfl 30 #[.int .i64 0, .int .u64 0, .int .i64 0, .slice none 0 0, .int .i64 0, .slice none 0 0] (HBX.out w5 HK25.out).2.2 hist_info rfl (histC_one (h := zeroH) ⟨rfl, rfl⟩) ?_; intro wz hbz kz; have HBZ := Lib.hid hbz; have HKZ := Lib.hid kz; clear hbz kz)
        | fail)
      refine bodyPost_ret (results_ct Try.results27 _ _ (q + 1 + 1) 30 _ (0, 0) _ rfl HBZ.out Try.underlying30 rfl hist_info) rfl ?_
      exact TogOut.zero ((HK02.out.trans HK25.out).newer HKZ.out (fun i e => by have := HGE.out; omega))
  rw [if_pos hE, ← hX, ← hY]
  unfold LevOut at HLV
  rw [hE] at HLV
  obtain ⟨r1, r2, r3, r4, r5, r6, _, _⟩ := lev_right hE ha.ok hb.ok
  obtain ⟨s1, s2⟩ := lev_sc hE ha.ok hb.ok
  rw [← hX] at r3 r5 s1
  rw [← hY] at r4 r6 s2
  have HXY := Lib.hid (And.intro (And.intro r3 r5) (And.intro (And.intro r4 r6) (s2.trans s1.symm)))
  clear hE hX hY hCA hCB hw2 hq k2 hb1 ha hb la1 la2 lb1 lb2 r1 r2 r3 r4 r5 r6 s1 s2
  have HF : Hid ((togF X : Int) = X.sc + 11) := Lib.hid (by have := err_sc HXY.out.1.1; unfold togF; omega)
  obtain ⟨F, hF⟩ : ∃ f, f = togF X := ⟨_, rfl⟩
  rw [← hF] at HF ⊢
  clear hF
  obtain ⟨T, hT⟩ : ∃ t, t = togK X Y most F 0 := ⟨_, rfl⟩
  rw [← hT]
  have HT := Lib.hid hT
  clear hT
  go_enter Try.func27, Try.ntmps27
  go_upto_region 1 with fail
  rw [← HW2.out.1, ← HW2.out.2]
  go_wp2_with (first
    | (refine wpList_load_row rfl 30 (.tmp 3) rfl q rfl 30 _ (0, 0) _ (HBX.out w2 (Kept.refl _ _)).1 Try.underlying30 rfl HIA.out.1 ?_)
    | (refine wpList_load_row rfl 30 (.tmp 4) rfl (q + 1) rfl 30 _ (0, 0) _ (HBX.out w2 (Kept.refl _ _)).2.1 Try.underlying30 rfl HIA.out.2 ?_)
    | fail)
  refine (HLV.out w2 HK02.out).mono ?_
  rintro e w3 ⟨p1, n1, p2, n2, rfl, m1, m2, m3, m4⟩
  obtain ⟨a1, b1, c1, d1, rfl, rfl, hn1⟩ := HN.of m1 m2
  obtain ⟨a2, b2, c2, d2, rfl, rfl, hn2⟩ := HN.of m3 m4
  have HN1 := Lib.hid hn1
  have HN2 := Lib.hid hn2
  have HK3 := Lib.hid hn1.mp.kept
  clear m1 m2 m3 m4 hn1 hn2
  rw [histV_A, histV_A]
  obtain ⟨g8, hg8⟩ : ∃ g, g = w3.heap.size := ⟨_, rfl⟩
  have HG8 := Lib.hid hg8
  clear hg8
  have HA : Hid (((w3.alloc (.cells #[.int .i64 0, .int .u64 0, .int .i64 0, .slice none 0 0, .int .i64 0, .slice none 0 0] 30)).alloc (.cells #[.int .i64 0, .int .u64 0, .int .i64 0, .slice none 0 0, .int .i64 0, .slice none 0 0] 30)).heap[w3.heap.size]? = some (.cells #[.int .i64 0, .int .u64 0, .int .i64 0, .slice none 0 0, .int .i64 0, .slice none 0 0] 30 (0, 0)) ∧ ((w3.alloc (.cells #[.int .i64 0, .int .u64 0, .int .i64 0, .slice none 0 0, .int .i64 0, .slice none 0 0] 30)).alloc (.cells #[.int .i64 0, .int .u64 0, .int .i64 0, .slice none 0 0, .int .i64 0, .slice none 0 0] 30)).heap[w3.heap.size + 1]? = some (.cells #[.int .i64 0, .int .u64 0, .int .i64 0, .slice none 0 0, .int .i64 0, .slice none 0 0] 30 (0, 0)) ∧ Kept (fun _ => False) w3 ((w3.alloc (.cells #[.int .i64 0, .int .u64 0, .int .i64 0, .slice none 0 0, .int .i64 0, .slice none 0 0] 30)).alloc (.cells #[.int .i64 0, .int .u64 0, .int .i64 0, .slice none 0 0, .int .i64 0, .slice none 0 0] 30))) := Lib.hid ⟨((Kept.refl (fun _ => False) _).alloc _).same (heap_alloc_new w3 _) (fun x => x), box_second2 w3 _ _, ((Kept.refl _ _).alloc _).alloc _⟩
  go_upto_region 2 with (first | (refine wpList_store_to rfl 30 (.tmp 8) _ rfl w3.heap.size (histA X (.slice a1 X.pl.length c1) (.slice b1 X.nl.length d1)) rfl rfl 30 #[.int .i64 0, .int .u64 0, .int .i64 0, .slice none 0 0, .int .i64 0, .slice none 0 0] HA.out.1 hist_info rfl (histC_one ⟨rfl, rfl⟩) ?_; intro w4 hb4 k4; have HB4 := Lib.hid hb4; have HK4 := Lib.hid k4; clear hb4 k4) | (refine wpList_store_to rfl 30 (.tmp 9) _ rfl (w3.heap.size + 1) (histA Y (.slice a2 Y.pl.length c2) (.slice b2 Y.nl.length d2)) rfl rfl 30 #[.int .i64 0, .int .u64 0, .int .i64 0, .slice none 0 0, .int .i64 0, .slice none 0 0] (HK4.out.same HA.out.2.1 (by omega)) hist_info rfl (histC_one ⟨rfl, rfl⟩) ?_; intro w5 hb5 k5; have HB5 := Lib.hid hb5; have HK5 := Lib.hid k5; clear hb5 k5))
  rw [← HG8.out]
  have HK35 : Hid (Kept (fun _ => False) w3 w5) := Lib.hid ((HA.out.2.2.newer HK4.out (fun i e => by omega)).newer HK5.out (fun i e => by omega))
  have HX5 : Hid (w5.heap[g8]? = some (.cells (histA X (.slice a1 X.pl.length c1) (.slice b1 X.nl.length d1)) 30 (0, 0))) := Lib.hid (by rw [HG8.out]; exact HK5.out.same HB4.out (by omega))
  have HY5 : Hid (w5.heap[g8 + 1]? = some (.cells (histA Y (.slice a2 Y.pl.length c2) (.slice b2 Y.nl.length d2)) 30 (0, 0))) := Lib.hid (by rw [HG8.out]; exact HB5.out)
  have HG2 : Hid (w2.heap.size ≤ g8) := Lib.hid (by rw [HG8.out]; exact HK3.out.size)
  have HK25 := Lib.hid (HK3.out.trans HK35.out)
  have HN1b := Lib.hid (HN1.out.on HK35.out)
  have HN2b := Lib.hid (HN2.out.on HK35.out)
  clear HA HB4 HB5 HK4 HK5 HN1 HN2
  go_wp2
  go_loopg [] F (fun g wr => ∃ k : Nat, k < F ∧ g = F - k ∧ T = togK X Y most (F - k) k ∧ Kept (fun _ => False) w2 wr ∧ ∃ a1 b1 c1 d1 a2 b2 c2 d2, wr.heap[g8]? = some (.cells (histA (downR X k) (.slice a1 (downR X k).pl.length c1) (.slice b1 (downR X k).nl.length d1)) 30 (0, 0)) ∧ wr.heap[g8 + 1]? = some (.cells (histA (downR Y k) (.slice a2 (downR Y k).pl.length c2) (.slice b2 (downR Y k).nl.length d2)) 30 (0, 0)) ∧ HN w2 wr (downR X k) a1 b1 c1 d1 ∧ HN w2 wr (downR Y k) a2 b2 c2 d2)
  case atStart =>
    refine ⟨0, by have := HF.out; have := err_sc HXY.out.1.1; omega, rfl, HT.out, HK25.out, a1, b1, c1, d1, a2, b2, c2, d2, ?_⟩
    rw [down_first HXY.out.1.1, down_first HXY.out.2.1.1]
    exact ⟨HX5.out, HY5.out, HN1b.out, HN2b.out⟩
  case round =>
    obtain ⟨k, hk, rfl, ht, kr, a1, b1, c1, d1, a2, b2, c2, d2, hx, hy, hn1, hn2⟩ := hrel
    have HKR := Lib.hid kr
    have HXB := Lib.hid hx
    have HYB := Lib.hid hy
    have HN1k := Lib.hid hn1
    have HN2k := Lib.hid hn2
    have HKF := Lib.hid hk
    have hkx : (k : Int) ≤ X.sc + 10 := by have := HF.out; omega
    obtain ⟨x0, x1, x2, x3⟩ := down_at HXY.out.1.1 hkx
    obtain ⟨y0, y1, y2, y3⟩ := down_at HXY.out.2.1.1 (k := k) (by rw [HXY.out.2.2]; exact hkx)
    have hmg : ∀ w', Kept (fun _ => False) wr w' → Calls Try.prog 17 #[histV (downR X k) (.slice a1 (downR X k).pl.length c1) (.slice b1 (downR X k).nl.length d1), histV (downR Y k) (.slice a2 (downR Y k).pl.length c2) (.slice b2 (downR Y k).nl.length d2)] w' (HistNew w' (mgH (downR X k) (downR Y k)) (mgE (downR X k) (downR Y k))) := fun w' kk =>
      foldMerge_any _ _ _ _ _ _ w' ((hn1.on kk).in_ (downR_ok' X k HXY.out.1.2)) ((hn2.on kk).in_ (downR_ok' Y k HXY.out.2.1.2)) (few_err x2).1 (few_err x2).2 (few_err y2).1 (few_err y2).2
    have hdx : ∀ w', Kept (fun _ => False) wr w' → Calls Try.prog 16 #[histV (downR X k) (.slice a1 (downR X k).pl.length c1) (.slice b1 (downR X k).nl.length d1), .int .i64 1] w' (HistOut w' (downR (downR X k) 1) (downE (downR X k) 1)) := fun w' kk =>
      histDown_any _ 1 _ _ w' ((hn1.on kk).in_ (downR_ok' X k HXY.out.1.2)).at_ (downR_ok' X k HXY.out.1.2) (few_err x2).1 (few_err x2).2 (by unfold I64; omega)
    have hdy : ∀ w', Kept (fun _ => False) wr w' → Calls Try.prog 16 #[histV (downR Y k) (.slice a2 (downR Y k).pl.length c2) (.slice b2 (downR Y k).nl.length d2), .int .i64 1] w' (HistOut w' (downR (downR Y k) 1) (downE (downR Y k) 1)) := fun w' kk =>
      histDown_any _ 1 _ _ w' ((hn2.on kk).in_ (downR_ok' Y k HXY.out.2.1.2)).at_ (downR_ok' Y k HXY.out.2.1.2) (few_err y2).1 (few_err y2).2 (by unfold I64; omega)
    have hst : T = if mgE (downR X k) (downR Y k) = 4 then (zeroH, false) else if mgE (downR X k) (downR Y k) = 0 ∧ fitsB (mgH (downR X k) (downR Y k)) most = true then (mgH (downR X k) (downR Y k), true) else togK X Y most (F - (k + 1)) (k + 1) := by
      rw [ht, show F - k = (F - (k + 1)) + 1 by omega, togK]
    have HST := Lib.hid hst
    have HXS := Lib.hid x3
    obtain ⟨M, hM⟩ : ∃ m, m = mgH (downR X k) (downR Y k) := ⟨_, rfl⟩
    obtain ⟨E, hE⟩ : ∃ m, m = mgE (downR X k) (downR Y k) := ⟨_, rfl⟩
    rw [← hM, ← hE] at hmg HST
    have HMG := Lib.hid hmg
    have HDX := Lib.hid hdx
    have HDY := Lib.hid hdy
    obtain ⟨x, hxk⟩ : ∃ h, h = downR X k := ⟨_, rfl⟩
    obtain ⟨y, hyk⟩ : ∃ h, h = downR Y k := ⟨_, rfl⟩
    rw [← hxk] at HMG HDX HXB HN1k HXS
    rw [← hyk] at HMG HDY HYB HN2k
    have HXK := Lib.hid hxk
    have HYK := Lib.hid hyk
    unfold HistNew at HMG
    unfold HistOut at HDX HDY
    clear hk ht kr hx hy hn1 hn2 hkx x0 x1 x2 x3 y0 y1 y2 y3 hmg hdx hdy hst hM hE hxk hyk
    have hcx : x.sc = X.sc - k := HXS.out
    go_wp2_with (first
      | (refine wpList_load_row rfl 30 (.tmp 8) rfl g8 rfl 30 _ (0, 0) _ HXB.out Try.underlying30 rfl hist_info ?_)
      | (refine wpList_load_row rfl 30 (.tmp 9) rfl (g8 + 1) rfl 30 _ (0, 0) _ HYB.out Try.underlying30 rfl hist_info ?_)
      | fail)
    refine (HMG.out wr (Kept.refl _ _)).mono ?_
    rintro e w6 ⟨pm, nm, rfl, mm1, mm2⟩
    obtain ⟨a3, b3, c3, d3, rfl, rfl, hn3⟩ := HN.of mm1 mm2
    have HN3 := Lib.hid hn3
    have HK6 := Lib.hid hn3.mp.kept
    clear mm1 mm2 hn3
    rw [histV_A]
    obtain ⟨g11, hg11⟩ : ∃ g, g = w6.heap.size := ⟨_, rfl⟩
    have HG11 := Lib.hid hg11
    clear hg11
    go_upto_region 4 with (refine wpList_store_box rfl 30 (.tmp 11) _ rfl w6 _ (histA M (.slice a3 M.pl.length c3) (.slice b3 M.nl.length d3)) 30 rfl rfl rfl hist_info rfl (histC_one ⟨rfl, rfl⟩) ?_; intro w7 hb7 k7; have HB7 : Hid (w7.heap[g11]? = some (.cells (histA M (.slice a3 M.pl.length c3) (.slice b3 M.nl.length d3)) 30 (0, 0))) := Lib.hid (by rw [HG11.out]; exact hb7); have HK67 := Lib.hid k7; have HK7 := Lib.hid (HK6.out.trans k7); clear hb7 k7)
    rw [← HG11.out]
    have c3' : w7.cell? ⟨g11, 3, none⟩ = some (.slice a3 M.pl.length c3) := cell_rowZ 3 _ HB7.out rfl
    have c5' : w7.cell? ⟨g11, 5, none⟩ = some (.slice b3 M.nl.length d3) := cell_rowZ 5 _ HB7.out rfl
    have x8 : w7.cell? ⟨g8, 0, none⟩ = some (.int .i64 x.sc) := cell_rowZ 0 _ (HK7.out.same HXB.out (fun x => x)) rfl
    have HFY : Hid (y.pl.length ≤ 1000000 ∧ y.nl.length ≤ 1000000) := Lib.hid (by have := down_at HXY.out.2.1.1 (k := k) (by rw [HXY.out.2.2]; have := HF.out; have := HKF.out; omega); rw [HYK.out]; exact few_err this.2.2.1)
    by_cases hE0 : E = 0
    · subst hE0
      have HE0 : Hid (0 = 0) := Lib.hid rfl
      by_cases hf1 : (M.pl.length : Int) ≤ most
      · have q1 : decide ((M.pl.length : Int) ≤ most) = true := decide_eq_true hf1
        by_cases hf2 : (M.nl.length : Int) ≤ most
        · have q2 : decide ((M.nl.length : Int) ≤ most) = true := decide_eq_true hf2
          have HFT : Hid (fitsB M most = true) := Lib.hid (by unfold fitsB; rw [q1, q2]; rfl)
          have HTT : Hid (T = (M, true)) := Lib.hid (by rw [HST.out, if_neg (by omega), if_pos ⟨HE0.out, HFT.out⟩])
          go_upto_region 5 with fail
          clear c3' c5' x8
          go_wp2_with (first
            | (refine wpList_load_row rfl 30 (.tmp 11) rfl g11 rfl 30 _ (0, 0) _ HB7.out Try.underlying30 rfl hist_info ?_)
            | (refine wpList_store_to rfl 30 (.tmp 6) _ rfl (q + 1 + 1) (histA M (.slice a3 M.pl.length c3) (.slice b3 M.nl.length d3)) rfl rfl 30 #[.int .i64 0, .int .u64 0, .int .i64 0, .slice none 0 0, .int .i64 0, .slice none 0 0] (HBX.out w7 (HKR.out.trans HK7.out)).2.2 hist_info rfl (histC_one ⟨rfl, rfl⟩) ?_; intro wz hbz kz; have HBZ := Lib.hid hbz; have HKZ := Lib.hid kz; clear hbz kz)
            | fail)
          refine bodyPost_ret (results_ct Try.results27 _ _ (q + 1 + 1) 30 _ (0, 0) _ rfl HBZ.out Try.underlying30 rfl hist_info) rfl ?_
          rw [HTT.out]
          have hn4 := ((HN3.out.on HK67.out).down (HKR.out)).down HK02.out
          exact ⟨a3, b3, c3, d3, rfl, hn4.set (HBX.out w7 (HKR.out.trans HK7.out)).2.2 (by decide) (by have := HGE.out; omega) HKZ.out⟩
        · have q2 : decide ((M.nl.length : Int) ≤ most) = false := decide_eq_false hf2
          by_cases hlast : k + 1 < F
          · have HNX := Lib.hid hlast
            have HTT : Hid (T = togK X Y most (F - (k + 1)) (k + 1)) := Lib.hid (by rw [HST.out, if_neg (by omega), if_neg (by rintro ⟨_, e⟩; unfold fitsB at e; rw [q2, Bool.and_false] at e; cases e)])
            have qs : (x.sc == -10) = false := by rw [beq_eq_false_iff_ne, hcx]; have := HF.out; omega
            clear hcx hlast
            go_upto_region 7 with fail
            clear c3' c5' x8
            go_wp2_with (first
              | (refine wpList_load_row rfl 30 (.tmp 8) rfl g8 rfl 30 _ (0, 0) _ (HK7.out.same HXB.out (fun x => x)) Try.underlying30 rfl hist_info ?_)
              | fail)
            refine (HDX.out w7 HK7.out).mono ?_
            rintro e w8 ⟨pv, nv, rfl, mm1, mm2, _⟩
            obtain ⟨a4, b4, c4, d4, rfl, rfl, hn4⟩ := HN.of mm1 mm2
            have HN4 := Lib.hid hn4
            have HK8 := Lib.hid (HK7.out.trans hn4.mp.kept)
            clear mm1 mm2 hn4
            rw [histV_A]
            have hb8 := HK8.out.same HXB.out (fun x => x)
            go_upto_region 8 with (refine wpList_store_to rfl 30 (.tmp 8) _ rfl g8 (histA (downR x 1) (.slice a4 (downR x 1).pl.length c4) (.slice b4 (downR x 1).nl.length d4)) rfl rfl 30 (histA x (.slice a1 x.pl.length c1) (.slice b1 x.nl.length d1)) hb8 hist_info rfl (histC_one ⟨rfl, rfl⟩) ?_; intro w9 hb9 k9; have HB9 := Lib.hid hb9; have HK9 := Lib.hid k9; clear hb9 k9)
            have HN4b := Lib.hid ((HN4.out.down (HKR.out.trans HK7.out)).set hb8 (by decide) HG2.out HK9.out)
            have HN2c := Lib.hid ((HN2k.out.on HK8.out).set hb8 (by decide) HG2.out HK9.out)
            have HYB9 := Lib.hid (HK9.out.same (HK8.out.same HYB.out (fun x => x)) (by omega))
            have HKw9 : Hid (Kept (fun _ => False) w2 w9) := Lib.hid ((HKR.out.trans HK8.out).newer HK9.out (fun i e => by rw [e]; exact HG2.out))
            have HYD : Hid (Calls Try.prog 16 #[.agg (histA y (.slice a2 y.pl.length c2) (.slice b2 y.nl.length d2)), .int .i64 1] w9 (HistOut w9 (downR y 1) (downE y 1))) := Lib.hid (histDown_any y 1 _ _ w9 (HN2c.out.in_ (by rw [HYK.out]; exact downR_ok' Y k HXY.out.2.1.2)).at_ (by rw [HYK.out]; exact downR_ok' Y k HXY.out.2.1.2) HFY.out.1 HFY.out.2 (by unfold I64; omega))
            unfold HistOut at HYD
            clear hb8
            go_wp2_with (first
              | (refine wpList_load_row rfl 30 (.tmp 9) rfl (g8 + 1) rfl 30 _ (0, 0) _ HYB9.out Try.underlying30 rfl hist_info ?_)
              | fail)
            refine HYD.out.mono ?_
            rintro e w10 ⟨pv, nv, rfl, mm1, mm2, _⟩
            obtain ⟨a5, b5, c5, d5, rfl, rfl, hn5⟩ := HN.of mm1 mm2
            have HN5 := Lib.hid hn5
            have HK10 := Lib.hid hn5.mp.kept
            clear mm1 mm2 hn5
            rw [histV_A]
            have hb10 := HK10.out.same HYB9.out (fun x => x)
            go_upto_region 2 with (refine wpList_store_to rfl 30 (.tmp 9) _ rfl (g8 + 1) (histA (downR y 1) (.slice a5 (downR y 1).pl.length c5) (.slice b5 (downR y 1).nl.length d5)) rfl rfl 30 (histA y (.slice a2 y.pl.length c2) (.slice b2 y.nl.length d2)) hb10 hist_info rfl (histC_one ⟨rfl, rfl⟩) ?_; intro w11 hb11 k11; have HB11 := Lib.hid hb11; have HK11 := Lib.hid k11; clear hb11 k11)
            have HG2' : Hid (w2.heap.size ≤ g8 + 1) := Lib.hid (by have := HG2.out; omega)
            have HN5b := Lib.hid ((HN5.out.down HKw9.out).set hb10 (by decide) HG2'.out HK11.out)
            have HN4c := Lib.hid ((HN4b.out.on HK10.out).set hb10 (by decide) HG2'.out HK11.out)
            have HB9b := Lib.hid (HK11.out.same (HK10.out.same HB9.out (fun x => x)) (by omega))
            clear hb10
            go_roundg (F - (k + 1))
            case measure => have := HKF.out; omega
            case rel =>
              have nx := down_next HXY.out.1.1 (k := k) (by have := HF.out; have := HNX.out; omega)
              have ny := down_next HXY.out.2.1.1 (k := k) (by rw [HXY.out.2.2]; have := HF.out; have := HNX.out; omega)
              refine ⟨k + 1, HNX.out, rfl, HTT.out, (HKw9.out.trans HK10.out).newer HK11.out (fun i e => by rw [e]; exact HG2'.out), a4, b4, c4, d4, a5, b5, c5, d5, ?_⟩
              rw [← nx.2, ← ny.2, ← HXK.out, ← HYK.out]
              exact ⟨HB9b.out, HB11.out, HN4c.out, HN5b.out⟩
          · have HTT : Hid (T = (zeroH, false)) := Lib.hid (by rw [HST.out, if_neg (by omega), if_neg (by rintro ⟨_, e⟩; unfold fitsB at e; rw [q2, Bool.and_false] at e; cases e), show F - (k + 1) = 0 by omega]; rfl)
            have qs : (x.sc == -10) = true := by rw [beq_iff_eq, hcx]; have := HF.out; have := HKF.out; omega
            clear hcx hlast
            go_upto_region 9 with fail
            clear c3' c5' x8
            go_wp2_with (first
              | (refine wpList_store_to rfl 30 (.tmp 6) _ rfl (q + 1 + 1) #[.int .i64 0, .int .u64 0, .int .i64 0, .slice none 0 0, .int .i64 0, .slice none 0 0] rfl rfl 30 #[.int .i64 0, .int .u64 0, .int .i64 0, .slice none 0 0, .int .i64 0, .slice none 0 0] (HBX.out w7 (HKR.out.trans HK7.out)).2.2 hist_info rfl (histC_one (h := zeroH) ⟨rfl, rfl⟩) ?_; intro wz hbz kz; have HBZ := Lib.hid hbz; have HKZ := Lib.hid kz; clear hbz kz)
              | fail)
            refine bodyPost_ret (results_ct Try.results27 _ _ (q + 1 + 1) 30 _ (0, 0) _ rfl HBZ.out Try.underlying30 rfl hist_info) rfl ?_
            rw [HTT.out]
            exact TogOut.zero ((HK02.out.trans (HKR.out.trans HK7.out)).newer HKZ.out (fun i e => by have := HGE.out; omega))
      · have q1 : decide ((M.pl.length : Int) ≤ most) = false := decide_eq_false hf1
        by_cases hlast : k + 1 < F
        · have HNX := Lib.hid hlast
          have HTT : Hid (T = togK X Y most (F - (k + 1)) (k + 1)) := Lib.hid (by rw [HST.out, if_neg (by omega), if_neg (by rintro ⟨_, e⟩; unfold fitsB at e; rw [q1, Bool.false_and] at e; cases e)])
          have qs : (x.sc == -10) = false := by rw [beq_eq_false_iff_ne, hcx]; have := HF.out; omega
          clear hcx hlast
          go_upto_region 7 with fail
          clear c3' c5' x8
          go_wp2_with (first
            | (refine wpList_load_row rfl 30 (.tmp 8) rfl g8 rfl 30 _ (0, 0) _ (HK7.out.same HXB.out (fun x => x)) Try.underlying30 rfl hist_info ?_)
            | fail)
          refine (HDX.out w7 HK7.out).mono ?_
          rintro e w8 ⟨pv, nv, rfl, mm1, mm2, _⟩
          obtain ⟨a4, b4, c4, d4, rfl, rfl, hn4⟩ := HN.of mm1 mm2
          have HN4 := Lib.hid hn4
          have HK8 := Lib.hid (HK7.out.trans hn4.mp.kept)
          clear mm1 mm2 hn4
          rw [histV_A]
          have hb8 := HK8.out.same HXB.out (fun x => x)
          go_upto_region 8 with (refine wpList_store_to rfl 30 (.tmp 8) _ rfl g8 (histA (downR x 1) (.slice a4 (downR x 1).pl.length c4) (.slice b4 (downR x 1).nl.length d4)) rfl rfl 30 (histA x (.slice a1 x.pl.length c1) (.slice b1 x.nl.length d1)) hb8 hist_info rfl (histC_one ⟨rfl, rfl⟩) ?_; intro w9 hb9 k9; have HB9 := Lib.hid hb9; have HK9 := Lib.hid k9; clear hb9 k9)
          have HN4b := Lib.hid ((HN4.out.down (HKR.out.trans HK7.out)).set hb8 (by decide) HG2.out HK9.out)
          have HN2c := Lib.hid ((HN2k.out.on HK8.out).set hb8 (by decide) HG2.out HK9.out)
          have HYB9 := Lib.hid (HK9.out.same (HK8.out.same HYB.out (fun x => x)) (by omega))
          have HKw9 : Hid (Kept (fun _ => False) w2 w9) := Lib.hid ((HKR.out.trans HK8.out).newer HK9.out (fun i e => by rw [e]; exact HG2.out))
          have HYD : Hid (Calls Try.prog 16 #[.agg (histA y (.slice a2 y.pl.length c2) (.slice b2 y.nl.length d2)), .int .i64 1] w9 (HistOut w9 (downR y 1) (downE y 1))) := Lib.hid (histDown_any y 1 _ _ w9 (HN2c.out.in_ (by rw [HYK.out]; exact downR_ok' Y k HXY.out.2.1.2)).at_ (by rw [HYK.out]; exact downR_ok' Y k HXY.out.2.1.2) HFY.out.1 HFY.out.2 (by unfold I64; omega))
          unfold HistOut at HYD
          clear hb8
          go_wp2_with (first
            | (refine wpList_load_row rfl 30 (.tmp 9) rfl (g8 + 1) rfl 30 _ (0, 0) _ HYB9.out Try.underlying30 rfl hist_info ?_)
            | fail)
          refine HYD.out.mono ?_
          rintro e w10 ⟨pv, nv, rfl, mm1, mm2, _⟩
          obtain ⟨a5, b5, c5, d5, rfl, rfl, hn5⟩ := HN.of mm1 mm2
          have HN5 := Lib.hid hn5
          have HK10 := Lib.hid hn5.mp.kept
          clear mm1 mm2 hn5
          rw [histV_A]
          have hb10 := HK10.out.same HYB9.out (fun x => x)
          go_upto_region 2 with (refine wpList_store_to rfl 30 (.tmp 9) _ rfl (g8 + 1) (histA (downR y 1) (.slice a5 (downR y 1).pl.length c5) (.slice b5 (downR y 1).nl.length d5)) rfl rfl 30 (histA y (.slice a2 y.pl.length c2) (.slice b2 y.nl.length d2)) hb10 hist_info rfl (histC_one ⟨rfl, rfl⟩) ?_; intro w11 hb11 k11; have HB11 := Lib.hid hb11; have HK11 := Lib.hid k11; clear hb11 k11)
          have HG2' : Hid (w2.heap.size ≤ g8 + 1) := Lib.hid (by have := HG2.out; omega)
          have HN5b := Lib.hid ((HN5.out.down HKw9.out).set hb10 (by decide) HG2'.out HK11.out)
          have HN4c := Lib.hid ((HN4b.out.on HK10.out).set hb10 (by decide) HG2'.out HK11.out)
          have HB9b := Lib.hid (HK11.out.same (HK10.out.same HB9.out (fun x => x)) (by omega))
          clear hb10
          go_roundg (F - (k + 1))
          case measure => have := HKF.out; omega
          case rel =>
            have nx := down_next HXY.out.1.1 (k := k) (by have := HF.out; have := HNX.out; omega)
            have ny := down_next HXY.out.2.1.1 (k := k) (by rw [HXY.out.2.2]; have := HF.out; have := HNX.out; omega)
            refine ⟨k + 1, HNX.out, rfl, HTT.out, (HKw9.out.trans HK10.out).newer HK11.out (fun i e => by rw [e]; exact HG2'.out), a4, b4, c4, d4, a5, b5, c5, d5, ?_⟩
            rw [← nx.2, ← ny.2, ← HXK.out, ← HYK.out]
            exact ⟨HB9b.out, HB11.out, HN4c.out, HN5b.out⟩
        · have HTT : Hid (T = (zeroH, false)) := Lib.hid (by rw [HST.out, if_neg (by omega), if_neg (by rintro ⟨_, e⟩; unfold fitsB at e; rw [q1, Bool.false_and] at e; cases e), show F - (k + 1) = 0 by omega]; rfl)
          have qs : (x.sc == -10) = true := by rw [beq_iff_eq, hcx]; have := HF.out; have := HKF.out; omega
          clear hcx hlast
          go_upto_region 9 with fail
          clear c3' c5' x8
          go_wp2_with (first
            | (refine wpList_store_to rfl 30 (.tmp 6) _ rfl (q + 1 + 1) #[.int .i64 0, .int .u64 0, .int .i64 0, .slice none 0 0, .int .i64 0, .slice none 0 0] rfl rfl 30 #[.int .i64 0, .int .u64 0, .int .i64 0, .slice none 0 0, .int .i64 0, .slice none 0 0] (HBX.out w7 (HKR.out.trans HK7.out)).2.2 hist_info rfl (histC_one (h := zeroH) ⟨rfl, rfl⟩) ?_; intro wz hbz kz; have HBZ := Lib.hid hbz; have HKZ := Lib.hid kz; clear hbz kz)
            | fail)
          refine bodyPost_ret (results_ct Try.results27 _ _ (q + 1 + 1) 30 _ (0, 0) _ rfl HBZ.out Try.underlying30 rfl hist_info) rfl ?_
          rw [HTT.out]
          exact TogOut.zero ((HK02.out.trans (HKR.out.trans HK7.out)).newer HKZ.out (fun i e => by have := HGE.out; omega))
    · have q0 : (((E : Nat) : Int) == 0) = false := by rw [beq_eq_false_iff_ne]; omega
      by_cases hE4 : E = 4
      · subst hE4
        have HTT : Hid (T = (zeroH, false)) := Lib.hid (by rw [HST.out, if_pos rfl])
        clear hE0 hcx
        go_upto_region 9 with fail
        clear c3' c5' x8
        go_wp2_with (first
          | (refine wpList_store_to rfl 30 (.tmp 6) _ rfl (q + 1 + 1) #[.int .i64 0, .int .u64 0, .int .i64 0, .slice none 0 0, .int .i64 0, .slice none 0 0] rfl rfl 30 #[.int .i64 0, .int .u64 0, .int .i64 0, .slice none 0 0, .int .i64 0, .slice none 0 0] (HBX.out w7 (HKR.out.trans HK7.out)).2.2 hist_info rfl (histC_one (h := zeroH) ⟨rfl, rfl⟩) ?_; intro wz hbz kz; have HBZ := Lib.hid hbz; have HKZ := Lib.hid kz; clear hbz kz)
          | fail)
        refine bodyPost_ret (results_ct Try.results27 _ _ (q + 1 + 1) 30 _ (0, 0) _ rfl HBZ.out Try.underlying30 rfl hist_info) rfl ?_
        rw [HTT.out]
        exact TogOut.zero ((HK02.out.trans (HKR.out.trans HK7.out)).newer HKZ.out (fun i e => by have := HGE.out; omega))
      · have q4 : (((E : Nat) : Int) == 4) = false := by rw [beq_eq_false_iff_ne]; omega
        by_cases hlast : k + 1 < F
        · have HNX := Lib.hid hlast
          have HTT : Hid (T = togK X Y most (F - (k + 1)) (k + 1)) := Lib.hid (by rw [HST.out, if_neg hE4, if_neg (fun e => hE0 e.1)])
          have qs : (x.sc == -10) = false := by rw [beq_eq_false_iff_ne, hcx]; have := HF.out; omega
          clear hcx hlast
          go_upto_region 7 with fail
          clear c3' c5' x8
          go_wp2_with (first
            | (refine wpList_load_row rfl 30 (.tmp 8) rfl g8 rfl 30 _ (0, 0) _ (HK7.out.same HXB.out (fun x => x)) Try.underlying30 rfl hist_info ?_)
            | fail)
          refine (HDX.out w7 HK7.out).mono ?_
          rintro e w8 ⟨pv, nv, rfl, mm1, mm2, _⟩
          obtain ⟨a4, b4, c4, d4, rfl, rfl, hn4⟩ := HN.of mm1 mm2
          have HN4 := Lib.hid hn4
          have HK8 := Lib.hid (HK7.out.trans hn4.mp.kept)
          clear mm1 mm2 hn4
          rw [histV_A]
          have hb8 := HK8.out.same HXB.out (fun x => x)
          go_upto_region 8 with (refine wpList_store_to rfl 30 (.tmp 8) _ rfl g8 (histA (downR x 1) (.slice a4 (downR x 1).pl.length c4) (.slice b4 (downR x 1).nl.length d4)) rfl rfl 30 (histA x (.slice a1 x.pl.length c1) (.slice b1 x.nl.length d1)) hb8 hist_info rfl (histC_one ⟨rfl, rfl⟩) ?_; intro w9 hb9 k9; have HB9 := Lib.hid hb9; have HK9 := Lib.hid k9; clear hb9 k9)
          have HN4b := Lib.hid ((HN4.out.down (HKR.out.trans HK7.out)).set hb8 (by decide) HG2.out HK9.out)
          have HN2c := Lib.hid ((HN2k.out.on HK8.out).set hb8 (by decide) HG2.out HK9.out)
          have HYB9 := Lib.hid (HK9.out.same (HK8.out.same HYB.out (fun x => x)) (by omega))
          have HKw9 : Hid (Kept (fun _ => False) w2 w9) := Lib.hid ((HKR.out.trans HK8.out).newer HK9.out (fun i e => by rw [e]; exact HG2.out))
          have HYD : Hid (Calls Try.prog 16 #[.agg (histA y (.slice a2 y.pl.length c2) (.slice b2 y.nl.length d2)), .int .i64 1] w9 (HistOut w9 (downR y 1) (downE y 1))) := Lib.hid (histDown_any y 1 _ _ w9 (HN2c.out.in_ (by rw [HYK.out]; exact downR_ok' Y k HXY.out.2.1.2)).at_ (by rw [HYK.out]; exact downR_ok' Y k HXY.out.2.1.2) HFY.out.1 HFY.out.2 (by unfold I64; omega))
          unfold HistOut at HYD
          clear hb8
          go_wp2_with (first
            | (refine wpList_load_row rfl 30 (.tmp 9) rfl (g8 + 1) rfl 30 _ (0, 0) _ HYB9.out Try.underlying30 rfl hist_info ?_)
            | fail)
          refine HYD.out.mono ?_
          rintro e w10 ⟨pv, nv, rfl, mm1, mm2, _⟩
          obtain ⟨a5, b5, c5, d5, rfl, rfl, hn5⟩ := HN.of mm1 mm2
          have HN5 := Lib.hid hn5
          have HK10 := Lib.hid hn5.mp.kept
          clear mm1 mm2 hn5
          rw [histV_A]
          have hb10 := HK10.out.same HYB9.out (fun x => x)
          go_upto_region 2 with (refine wpList_store_to rfl 30 (.tmp 9) _ rfl (g8 + 1) (histA (downR y 1) (.slice a5 (downR y 1).pl.length c5) (.slice b5 (downR y 1).nl.length d5)) rfl rfl 30 (histA y (.slice a2 y.pl.length c2) (.slice b2 y.nl.length d2)) hb10 hist_info rfl (histC_one ⟨rfl, rfl⟩) ?_; intro w11 hb11 k11; have HB11 := Lib.hid hb11; have HK11 := Lib.hid k11; clear hb11 k11)
          have HG2' : Hid (w2.heap.size ≤ g8 + 1) := Lib.hid (by have := HG2.out; omega)
          have HN5b := Lib.hid ((HN5.out.down HKw9.out).set hb10 (by decide) HG2'.out HK11.out)
          have HN4c := Lib.hid ((HN4b.out.on HK10.out).set hb10 (by decide) HG2'.out HK11.out)
          have HB9b := Lib.hid (HK11.out.same (HK10.out.same HB9.out (fun x => x)) (by omega))
          clear hb10
          go_roundg (F - (k + 1))
          case measure => have := HKF.out; omega
          case rel =>
            have nx := down_next HXY.out.1.1 (k := k) (by have := HF.out; have := HNX.out; omega)
            have ny := down_next HXY.out.2.1.1 (k := k) (by rw [HXY.out.2.2]; have := HF.out; have := HNX.out; omega)
            refine ⟨k + 1, HNX.out, rfl, HTT.out, (HKw9.out.trans HK10.out).newer HK11.out (fun i e => by rw [e]; exact HG2'.out), a4, b4, c4, d4, a5, b5, c5, d5, ?_⟩
            rw [← nx.2, ← ny.2, ← HXK.out, ← HYK.out]
            exact ⟨HB9b.out, HB11.out, HN4c.out, HN5b.out⟩
        · have HTT : Hid (T = (zeroH, false)) := Lib.hid (by rw [HST.out, if_neg hE4, if_neg (fun e => hE0 e.1), show F - (k + 1) = 0 by omega]; rfl)
          have qs : (x.sc == -10) = true := by rw [beq_iff_eq, hcx]; have := HF.out; have := HKF.out; omega
          clear hcx hlast
          go_upto_region 9 with fail
          clear c3' c5' x8
          go_wp2_with (first
            | (refine wpList_store_to rfl 30 (.tmp 6) _ rfl (q + 1 + 1) #[.int .i64 0, .int .u64 0, .int .i64 0, .slice none 0 0, .int .i64 0, .slice none 0 0] rfl rfl 30 #[.int .i64 0, .int .u64 0, .int .i64 0, .slice none 0 0, .int .i64 0, .slice none 0 0] (HBX.out w7 (HKR.out.trans HK7.out)).2.2 hist_info rfl (histC_one (h := zeroH) ⟨rfl, rfl⟩) ?_; intro wz hbz kz; have HBZ := Lib.hid hbz; have HKZ := Lib.hid kz; clear hbz kz)
            | fail)
          refine bodyPost_ret (results_ct Try.results27 _ _ (q + 1 + 1) 30 _ (0, 0) _ rfl HBZ.out Try.underlying30 rfl hist_info) rfl ?_
          rw [HTT.out]
          exact TogOut.zero ((HK02.out.trans (HKR.out.trans HK7.out)).newer HKZ.out (fun i e => by have := HGE.out; omega))
end Go.Proofs.Ytiiibhdohlpodaa
