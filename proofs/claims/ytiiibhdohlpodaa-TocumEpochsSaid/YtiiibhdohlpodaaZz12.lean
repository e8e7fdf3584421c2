/- Texts put together: what the theorem stands on. -/
import Derived.Test.YtiiibhdohlpodaaZz5
import Derived.Test.YtiiibhdohlpodaaZz7
import Derived.Test.YtiiibhdohlpodaaZz9
import Derived.Test.YtiiibhdohlpodaaZz11

namespace Go.Proofs.Ytiiibhdohlpodaa
open Go.RowKit
attribute [local go_sem ↓] Go.wp_at_zero Go.wp_at_succ
set_option maxHeartbeats 16000000 in
set_option maxRecDepth 100000 in
theorem together_any (a b : HistV) (ap an bp bn : Value) (most : Int) (w : World) (ha : HistIn w a ap an) (hb : HistIn w b bp bn) (la1 : a.pl.length ≤ 1000000) (la2 : a.nl.length ≤ 1000000) (lb1 : b.pl.length ≤ 1000000) (lb2 : b.nl.length ≤ 1000000) :
    Calls Try.prog 27 #[histV a ap an, histV b bp bn, .int .i64 most] w (TogOut w (togH a b most)) := by
  obtain ⟨q, hq⟩ : ∃ q, q = w.heap.size := ⟨_, rfl⟩
  have HLV := Lib.hid (fun w' (k : Kept (fun _ => False) w w') => foldLevel_any a b _ _ _ _ w' (ha.at_.on k) (hb.at_.on k) ha.ok hb.ok la1 la2 lb1 lb2)
  rw [histV_A, histV_A] at HLV ⊢
  obtain ⟨CA, hCA⟩ : ∃ c, c = histA a ap an := ⟨_, rfl⟩
  obtain ⟨CB, hCB⟩ : ∃ c, c = histA b bp bn := ⟨_, rfl⟩
  rw [← hCA, ← hCB] at HLV
  rw [← hCA, ← hCB]
  have HIA : Hid ((Try.prog.info? 30).map (·.size) = some CA.size ∧ (Try.prog.info? 30).map (·.size) = some CB.size) := Lib.hid (by rw [hCA, hCB]; exact ⟨hist_info, hist_info⟩)
  obtain ⟨w2, hw2⟩ : ∃ w2, w2 = ((w.alloc (.cells CA 30)).alloc (.cells CB 30)).alloc (.cells #[.int .i64 0, .int .u64 0, .int .i64 0, .slice none 0 0, .int .i64 0, .slice none 0 0] 30) := ⟨_, rfl⟩
  have k2 : Kept (fun _ => False) w w2 := by rw [hw2]; exact (((Kept.refl _ _).alloc _).alloc _).alloc _
  have hb1 : w2.heap[q]? = some (.cells CA 30 (0, 0)) ∧ w2.heap[q + 1]? = some (.cells CB 30 (0, 0)) ∧ w2.heap[q + 1 + 1]? = some (.cells #[.int .i64 0, .int .u64 0, .int .i64 0, .slice none 0 0, .int .i64 0, .slice none 0 0] 30 (0, 0)) := by rw [hw2, hq]; exact ⟨(((Kept.refl (fun _ => False) _).alloc _).alloc _).same (heap_alloc_new w _) (fun x => x), ((Kept.refl (fun _ => False) _).alloc _).same (box_second2 w _ _) (fun x => x), heap_third w _ _ _⟩
  have HBX : Hid (∀ w', Kept (fun _ => False) w2 w' → w'.heap[q]? = some (.cells CA 30 (0, 0)) ∧ w'.heap[q + 1]? = some (.cells CB 30 (0, 0)) ∧ w'.heap[q + 1 + 1]? = some (.cells #[.int .i64 0, .int .u64 0, .int .i64 0, .slice none 0 0, .int .i64 0, .slice none 0 0] 30 (0, 0))) := Lib.hid (fun w' k => ⟨k.same hb1.1 (fun x => x), k.same hb1.2.1 (fun x => x), k.same hb1.2.2 (fun x => x)⟩)
  have HW2 := Lib.hid (And.intro hw2 hq)
  have HK02 := Lib.hid k2
  have HGE : Hid (w.heap.size ≤ q) := Lib.hid (by omega)
  have HQL : Hid (q + 1 + 1 < w2.heap.size) := Lib.hid (Array.getElem?_eq_some_iff.1 hb1.2.2).1
  unfold togH
  obtain ⟨X, hX⟩ : ∃ h, h = levX a b := ⟨_, rfl⟩
  obtain ⟨Y, hY⟩ : ∃ h, h = levY a b := ⟨_, rfl⟩
  rw [← hX, ← hY] at HLV
  by_cases hE : levE a b = 0
  case neg =>
    rw [if_neg hE]
    obtain ⟨n, hn⟩ : ∃ n : Int, n = ((levE a b : Nat) : Int) := ⟨_, rfl⟩
    obtain ⟨n, hn⟩ : ∃ n : Int, n = ((levE a b : Nat) : Int) := ⟨_, rfl⟩
    unfold LevOut at HLV
    rw [← hn] at HLV
    have q1 : (n == 0) = false := by rw [beq_eq_false_iff_ne]; omega
    clear hn hE hX hY hCA hCB hw2 hq k2 hb1 ha hb la1 la2 lb1 lb2
    go_enter Try.func27, Try.ntmps27
    go_upto_region 1 with fail
    rw [← HW2.out.1, ← HW2.out.2]
    go_wp2_with (first
      | (refine wpList_load_row rfl 30 (.tmp 3) rfl q rfl 30 _ (0, 0) _ (HBX.out w2 (Kept.refl _ _)).1 Try.underlying30 rfl HIA.out.1 ?_)
      | (refine wpList_load_row rfl 30 (.tmp 4) rfl (q + 1) rfl 30 _ (0, 0) _ (HBX.out w2 (Kept.refl _ _)).2.1 Try.underlying30 rfl HIA.out.2 ?_)
      | fail)
    refine (HLV.out w2 HK02.out).mono ?_
    rintro e w3 ⟨p1, n1, p2, n2, rfl, m1, m2, m3, m4⟩
    obtain ⟨a1, b1, c1, d1, rfl, rfl, hn1⟩ := HN.of m1 m2
    obtain ⟨a2, b2, c2, d2, rfl, rfl, hn2⟩ := HN.of m3 m4
    have HN1 := Lib.hid hn1
    have HN2 := Lib.hid hn2
    have HK3 := Lib.hid hn1.mp.kept
    clear m1 m2 m3 m4 hn1 hn2
    rw [histV_A, histV_A]
    obtain ⟨g8, hg8⟩ : ∃ g, g = w3.heap.size := ⟨_, rfl⟩
    have HG8 := Lib.hid hg8
    clear hg8
    have HA : Hid (((w3.alloc (.cells #[.int .i64 0, .int .u64 0, .int .i64 0, .slice none 0 0, .int .i64 0, .slice none 0 0] 30)).alloc (.cells #[.int .i64 0, .int .u64 0, .int .i64 0, .slice none 0 0, .int .i64 0, .slice none 0 0] 30)).heap[w3.heap.size]? = some (.cells #[.int .i64 0, .int .u64 0, .int .i64 0, .slice none 0 0, .int .i64 0, .slice none 0 0] 30 (0, 0)) ∧ ((w3.alloc (.cells #[.int .i64 0, .int .u64 0, .int .i64 0, .slice none 0 0, .int .i64 0, .slice none 0 0] 30)).alloc (.cells #[.int .i64 0, .int .u64 0, .int .i64 0, .slice none 0 0, .int .i64 0, .slice none 0 0] 30)).heap[w3.heap.size + 1]? = some (.cells #[.int .i64 0, .int .u64 0, .int .i64 0, .slice none 0 0, .int .i64 0, .slice none 0 0] 30 (0, 0)) ∧ Kept (fun _ => False) w3 ((w3.alloc (.cells #[.int .i64 0, .int .u64 0, .int .i64 0, .slice none 0 0, .int .i64 0, .slice none 0 0] 30)).alloc (.cells #[.int .i64 0, .int .u64 0, .int .i64 0, .slice none 0 0, .int .i64 0, .slice none 0 0] 30))) := Lib.hid ⟨((Kept.refl (fun _ => False) _).alloc _).same (heap_alloc_new w3 _) (fun x => x), box_second2 w3 _ _, ((Kept.refl _ _).alloc _).alloc _⟩
    go_upto_region 2 with (first | (refine wpList_store_to rfl 30 (.tmp 8) _ rfl w3.heap.size (histA X (.slice a1 X.pl.length c1) (.slice b1 X.nl.length d1)) rfl rfl 30 #[.int .i64 0, .int .u64 0, .int .i64 0, .slice none 0 0, .int .i64 0, .slice none 0 0] HA.out.1 hist_info rfl (histC_one ⟨rfl, rfl⟩) ?_; intro w4 hb4 k4; have HB4 := Lib.hid hb4; have HK4 := Lib.hid k4; clear hb4 k4) | (refine wpList_store_to rfl 30 (.tmp 9) _ rfl (w3.heap.size + 1) (histA Y (.slice a2 Y.pl.length c2) (.slice b2 Y.nl.length d2)) rfl rfl 30 #[.int .i64 0, .int .u64 0, .int .i64 0, .slice none 0 0, .int .i64 0, .slice none 0 0] (HK4.out.same HA.out.2.1 (by omega)) hist_info rfl (histC_one ⟨rfl, rfl⟩) ?_; intro w5 hb5 k5; have HB5 := Lib.hid hb5; have HK5 := Lib.hid k5; clear hb5 k5))
    rw [← HG8.out]
    have HK35 : Hid (Kept (fun _ => False) w3 w5) := Lib.hid ((HA.out.2.2.newer HK4.out (fun i e => by omega)).newer HK5.out (fun i e => by omega))
    have HX5 : Hid (w5.heap[g8]? = some (.cells (histA X (.slice a1 X.pl.length c1) (.slice b1 X.nl.length d1)) 30 (0, 0))) := Lib.hid (by rw [HG8.out]; exact HK5.out.same HB4.out (by omega))
    have HY5 : Hid (w5.heap[g8 + 1]? = some (.cells (histA Y (.slice a2 Y.pl.length c2) (.slice b2 Y.nl.length d2)) 30 (0, 0))) := Lib.hid (by rw [HG8.out]; exact HB5.out)
    have HG2 : Hid (w2.heap.size ≤ g8) := Lib.hid (by rw [HG8.out]; exact HK3.out.size)
    have HK25 := Lib.hid (HK3.out.trans HK35.out)
    have HN1b := Lib.hid (HN1.out.on HK35.out)
    have HN2b := Lib.hid (HN2.out.on HK35.out)
    clear HA HB4 HB5 HK4 HK5 HN1 HN2
    go_wp2
    go_loopg [] 0 (fun g wr => g = 0 ∧ w5 = wr)
    case atStart => exact ⟨rfl, rfl⟩
    case round =>
      obtain ⟨rfl, rfl⟩ := hrel
      go_wp2_with (first
        | (refine wpList_store_to rfl 30 (.tmp 6) _ rfl (q + 1 + 1) #[.int .i64 0, .int .u64 0, .int .i64 0, .slice none 0 0, .int .i64 0, .slice none 0 0] rfl rfl 30 #[.int .i64 0, .int .u64 0, .int .i64 0, .slice none 0 0, .int .i64 0, .slice none 0 0] (HBX.out w5 HK25.out).2.2 hist_info rfl (histC_one (h := zeroH) ⟨rfl, rfl⟩) ?_; intro wz hbz kz; have HBZ := Lib.hid hbz; have HKZ := Lib.hid kz; clear hbz kz)
        | fail)
      refine bodyPost_ret (results_ct Try.results27 _ _ (q + 1 + 1) 30 _ (0, 0) _ rfl HBZ.out Try.underlying30 rfl hist_info) rfl ?_
      exact TogOut.zero ((HK02.out.trans HK25.out).newer HKZ.out (fun i e => by have := HGE.out; omega))
  rw [if_pos hE, ← hX, ← hY]
  unfold LevOut at HLV
  rw [hE] at HLV
  obtain ⟨r1, r2, r3, r4, r5, r6, _, _⟩ := lev_right hE ha.ok hb.ok
  obtain ⟨s1, s2⟩ := lev_sc hE ha.ok hb.ok
  rw [← hX] at r3 r5 s1
  rw [← hY] at r4 r6 s2
  have HXY := Lib.hid (And.intro (And.intro r3 r5) (And.intro (And.intro r4 r6) (s2.trans s1.symm)))
  clear hE hX hY hCA hCB hw2 hq k2 hb1 ha hb la1 la2 lb1 lb2 r1 r2 r3 r4 r5 r6 s1 s2
  have HF : Hid ((togF X : Int) = X.sc + 11) := Lib.hid (by have := err_sc HXY.out.1.1; unfold togF; omega)
  obtain ⟨F, hF⟩ : ∃ f, f = togF X := ⟨_, rfl⟩
  rw [← hF] at HF ⊢
  clear hF
  obtain ⟨T, hT⟩ : ∃ t, t = togK X Y most F 0 := ⟨_, rfl⟩
  rw [← hT]
  have HT := Lib.hid hT
  clear hT
  go_enter Try.func27, Try.ntmps27
  go_upto_region 1 with fail
  rw [← HW2.out.1, ← HW2.out.2]
  go_wp2_with (first
    | (refine wpList_load_row rfl 30 (.tmp 3) rfl q rfl 30 _ (0, 0) _ (HBX.out w2 (Kept.refl _ _)).1 Try.underlying30 rfl HIA.out.1 ?_)
    | (refine wpList_load_row rfl 30 (.tmp 4) rfl (q + 1) rfl 30 _ (0, 0) _ (HBX.out w2 (Kept.refl _ _)).2.1 Try.underlying30 rfl HIA.out.2 ?_)
    | fail)
  refine (HLV.out w2 HK02.out).mono ?_
  rintro e w3 ⟨p1, n1, p2, n2, rfl, m1, m2, m3, m4⟩
  obtain ⟨a1, b1, c1, d1, rfl, rfl, hn1⟩ := HN.of m1 m2
  obtain ⟨a2, b2, c2, d2, rfl, rfl, hn2⟩ := HN.of m3 m4
  have HN1 := Lib.hid hn1
  have HN2 := Lib.hid hn2
  have HK3 := Lib.hid hn1.mp.kept
  clear m1 m2 m3 m4 hn1 hn2
  rw [histV_A, histV_A]
  obtain ⟨g8, hg8⟩ : ∃ g, g = w3.heap.size := ⟨_, rfl⟩
  have HG8 := Lib.hid hg8
  clear hg8
  have HA : Hid (((w3.alloc (.cells #[.int .i64 0, .int .u64 0, .int .i64 0, .slice none 0 0, .int .i64 0, .slice none 0 0] 30)).alloc (.cells #[.int .i64 0, .int .u64 0, .int .i64 0, .slice none 0 0, .int .i64 0, .slice none 0 0] 30)).heap[w3.heap.size]? = some (.cells #[.int .i64 0, .int .u64 0, .int .i64 0, .slice none 0 0, .int .i64 0, .slice none 0 0] 30 (0, 0)) ∧ ((w3.alloc (.cells #[.int .i64 0, .int .u64 0, .int .i64 0, .slice none 0 0, .int .i64 0, .slice none 0 0] 30)).alloc (.cells #[.int .i64 0, .int .u64 0, .int .i64 0, .slice none 0 0, .int .i64 0, .slice none 0 0] 30)).heap[w3.heap.size + 1]? = some (.cells #[.int .i64 0, .int .u64 0, .int .i64 0, .slice none 0 0, .int .i64 0, .slice none 0 0] 30 (0, 0)) ∧ Kept (fun _ => False) w3 ((w3.alloc (.cells #[.int .i64 0, .int .u64 0, .int .i64 0, .slice none 0 0, .int .i64 0, .slice none 0 0] 30)).alloc (.cells #[.int .i64 0, .int .u64 0, .int .i64 0, .slice none 0 0, .int .i64 0, .slice none 0 0] 30))) := Lib.hid ⟨((Kept.refl (fun _ => False) _).alloc _).same (heap_alloc_new w3 _) (fun x => x), box_second2 w3 _ _, ((Kept.refl _ _).alloc _).alloc _⟩
  go_upto_region 2 with (first | (refine wpList_store_to rfl 30 (.tmp 8) _ rfl w3.heap.size (histA X (.slice a1 X.pl.length c1) (.slice b1 X.nl.length d1)) rfl rfl 30 #[.int .i64 0, .int .u64 0, .int .i64 0, .slice none 0 0, .int .i64 0, .slice none 0 0] HA.out.1 hist_info rfl (histC_one ⟨rfl, rfl⟩) ?_; intro w4 hb4 k4; have HB4 := Lib.hid hb4; have HK4 := Lib.hid k4; clear hb4 k4) | (refine wpList_store_to rfl 30 (.tmp 9) _ rfl (w3.heap.size + 1) (histA Y (.slice a2 Y.pl.length c2) (.slice b2 Y.nl.length d2)) rfl rfl 30 #[.int .i64 0, .int .u64 0, .int .i64 0, .slice none 0 0, .int .i64 0, .slice none 0 0] (HK4.out.same HA.out.2.1 (by omega)) hist_info rfl (histC_one ⟨rfl, rfl⟩) ?_; intro w5 hb5 k5; have HB5 := Lib.hid hb5; have HK5 := Lib.hid k5; clear hb5 k5))
  rw [← HG8.out]
  have HK35 : Hid (Kept (fun _ => False) w3 w5) := Lib.hid ((HA.out.2.2.newer HK4.out (fun i e => by omega)).newer HK5.out (fun i e => by omega))
  have HX5 : Hid (w5.heap[g8]? = some (.cells (histA X (.slice a1 X.pl.length c1) (.slice b1 X.nl.length d1)) 30 (0, 0))) := Lib.hid (by rw [HG8.out]; exact HK5.out.same HB4.out (by omega))
  have HY5 : Hid (w5.heap[g8 + 1]? = some (.cells (histA Y (.slice a2 Y.pl.length c2) (.slice b2 Y.nl.length d2)) 30 (0, 0))) := Lib.hid (by rw [HG8.out]; exact HB5.out)
  have HG2 : Hid (w2.heap.size ≤ g8) := Lib.hid (by rw [HG8.out]; exact HK3.out.size)
  have HK25 := Lib.hid (HK3.out.trans HK35.out)
  have HN1b := Lib.hid (HN1.out.on HK35.out)
  have HN2b := Lib.hid (HN2.out.on HK35.out)
  clear HA HB4 HB5 HK4 HK5 HN1 HN2
  go_wp2
  go_loopg [] F (fun g wr => ∃ k : Nat, k < F ∧ g = F - k ∧ T = togK X Y most (F - k) k ∧ Kept (fun _ => False) w2 wr ∧ ∃ a1 b1 c1 d1 a2 b2 c2 d2, wr.heap[g8]? = some (.cells (histA (downR X k) (.slice a1 (downR X k).pl.length c1) (.slice b1 (downR X k).nl.length d1)) 30 (0, 0)) ∧ wr.heap[g8 + 1]? = some (.cells (histA (downR Y k) (.slice a2 (downR Y k).pl.length c2) (.slice b2 (downR Y k).nl.length d2)) 30 (0, 0)) ∧ HN w2 wr (downR X k) a1 b1 c1 d1 ∧ HN w2 wr (downR Y k) a2 b2 c2 d2)
  case atStart =>
    refine ⟨0, by have := HF.out; have := err_sc HXY.out.1.1; omega, rfl, HT.out, HK25.out, a1, b1, c1, d1, a2, b2, c2, d2, ?_⟩
    rw [down_first HXY.out.1.1, down_first HXY.out.2.1.1]
    exact ⟨HX5.out, HY5.out, HN1b.out, HN2b.out⟩
  case round =>
    obtain ⟨k, hk, rfl, ht, kr, a1, b1, c1, d1, a2, b2, c2, d2, hx, hy, hn1, hn2⟩ := hrel
    have HKR := Lib.hid kr
    have HXB := Lib.hid hx
    have HYB := Lib.hid hy
    have HN1k := Lib.hid hn1
    have HN2k := Lib.hid hn2
    have HKF := Lib.hid hk
    have hkx : (k : Int) ≤ X.sc + 10 := by have := HF.out; omega
    obtain ⟨x0, x1, x2, x3⟩ := down_at HXY.out.1.1 hkx
    obtain ⟨y0, y1, y2, y3⟩ := down_at HXY.out.2.1.1 (k := k) (by rw [HXY.out.2.2]; exact hkx)
    have hmg : ∀ w', Kept (fun _ => False) wr w' → Calls Try.prog 17 #[histV (downR X k) (.slice a1 (downR X k).pl.length c1) (.slice b1 (downR X k).nl.length d1), histV (downR Y k) (.slice a2 (downR Y k).pl.length c2) (.slice b2 (downR Y k).nl.length d2)] w' (HistNew w' (mgH (downR X k) (downR Y k)) (mgE (downR X k) (downR Y k))) := fun w' kk =>
      foldMerge_any _ _ _ _ _ _ w' ((hn1.on kk).in_ (downR_ok' X k HXY.out.1.2)) ((hn2.on kk).in_ (downR_ok' Y k HXY.out.2.1.2)) (few_err x2).1 (few_err x2).2 (few_err y2).1 (few_err y2).2
    have hdx : ∀ w', Kept (fun _ => False) wr w' → Calls Try.prog 16 #[histV (downR X k) (.slice a1 (downR X k).pl.length c1) (.slice b1 (downR X k).nl.length d1), .int .i64 1] w' (HistOut w' (downR (downR X k) 1) (downE (downR X k) 1)) := fun w' kk =>
      histDown_any _ 1 _ _ w' ((hn1.on kk).in_ (downR_ok' X k HXY.out.1.2)).at_ (downR_ok' X k HXY.out.1.2) (few_err x2).1 (few_err x2).2 (by unfold I64; omega)
    have hdy : ∀ w', Kept (fun _ => False) wr w' → Calls Try.prog 16 #[histV (downR Y k) (.slice a2 (downR Y k).pl.length c2) (.slice b2 (downR Y k).nl.length d2), .int .i64 1] w' (HistOut w' (downR (downR Y k) 1) (downE (downR Y k) 1)) := fun w' kk =>
      histDown_any _ 1 _ _ w' ((hn2.on kk).in_ (downR_ok' Y k HXY.out.2.1.2)).at_ (downR_ok' Y k HXY.out.2.1.2) (few_err y2).1 (few_err y2).2 (by unfold I64; omega)
    have hst : T = if mgE (downR X k) (downR Y k) = 4 then (zeroH, false) else if mgE (downR X k) (downR Y k) = 0 ∧ fitsB (mgH (downR X k) (downR Y k)) most = true then (mgH (downR X k) (downR Y k), true) else togK X Y most (F - (k + 1)) (k + 1) := by
      rw [ht, show F - k = (F - (k + 1)) + 1 by omega, togK]
    have HST := Lib.hid hst
    have HXS := Lib.hid x3
    obtain ⟨M, hM⟩ : ∃ m, m = mgH (downR X k) (downR Y k) := ⟨_, rfl⟩
    obtain ⟨E, hE⟩ : ∃ m, m = mgE (downR X k) (downR Y k) := ⟨_, rfl⟩
    rw [← hM, ← hE] at hmg HST
    have HMG := Lib.hid hmg
    have HDX := Lib.hid hdx
    have HDY := Lib.hid hdy
    obtain ⟨x, hxk⟩ : ∃ h, h = downR X k := ⟨_, rfl⟩
    obtain ⟨y, hyk⟩ : ∃ h, h = downR Y k := ⟨_, rfl⟩
    rw [← hxk] at HMG HDX HXB HN1k HXS
    rw [← hyk] at HMG HDY HYB HN2k
    have HXK := Lib.hid hxk
    have HYK := Lib.hid hyk
    unfold HistNew at HMG
    unfold HistOut at HDX HDY
    clear hk ht kr hx hy hn1 hn2 hkx x0 x1 x2 x3 y0 y1 y2 y3 hmg hdx hdy hst hM hE hxk hyk
    have hcx : x.sc = X.sc - k := HXS.out
    go_wp2_with (first
      | (refine wpList_load_row rfl 30 (.tmp 8) rfl g8 rfl 30 _ (0, 0) _ HXB.out Try.underlying30 rfl hist_info ?_)
      | (refine wpList_load_row rfl 30 (.tmp 9) rfl (g8 + 1) rfl 30 _ (0, 0) _ HYB.out Try.underlying30 rfl hist_info ?_)
      | fail)
    refine (HMG.out wr (Kept.refl _ _)).mono ?_
    rintro e w6 ⟨pm, nm, rfl, mm1, mm2⟩
    obtain ⟨a3, b3, c3, d3, rfl, rfl, hn3⟩ := HN.of mm1 mm2
    have HN3 := Lib.hid hn3
    have HK6 := Lib.hid hn3.mp.kept
    clear mm1 mm2 hn3
    rw [histV_A]
    obtain ⟨g11, hg11⟩ : ∃ g, g = w6.heap.size := ⟨_, rfl⟩
    have HG11 := Lib.hid hg11
    clear hg11
    go_upto_region 4 with (refine wpList_store_box rfl 30 (.tmp 11) _ rfl w6 _ (histA M (.slice a3 M.pl.length c3) (.slice b3 M.nl.length d3)) 30 rfl rfl rfl hist_info rfl (histC_one ⟨rfl, rfl⟩) ?_; intro w7 hb7 k7; have HB7 : Hid (w7.heap[g11]? = some (.cells (histA M (.slice a3 M.pl.length c3) (.slice b3 M.nl.length d3)) 30 (0, 0))) := Lib.hid (by rw [HG11.out]; exact hb7); have HK67 := Lib.hid k7; have HK7 := Lib.hid (HK6.out.trans k7); clear hb7 k7)
    rw [← HG11.out]
    have c3' : w7.cell? ⟨g11, 3, none⟩ = some (.slice a3 M.pl.length c3) := cell_rowZ 3 _ HB7.out rfl
    have c5' : w7.cell? ⟨g11, 5, none⟩ = some (.slice b3 M.nl.length d3) := cell_rowZ 5 _ HB7.out rfl
    have x8 : w7.cell? ⟨g8, 0, none⟩ = some (.int .i64 x.sc) := cell_rowZ 0 _ (HK7.out.same HXB.out (fun x => x)) rfl
    have HFY : Hid (y.pl.length ≤ 1000000 ∧ y.nl.length ≤ 1000000) := Lib.hid (by have := down_at HXY.out.2.1.1 (k := k) (by rw [HXY.out.2.2]; have := HF.out; have := HKF.out; omega); rw [HYK.out]; exact few_err this.2.2.1)
    by_cases hE0 : E = 0
    · subst hE0
      have HE0 : Hid (0 = 0) := Lib.hid rfl
      by_cases hf1 : (M.pl.length : Int) ≤ most
      · have q1 : decide ((M.pl.length : Int) ≤ most) = true := decide_eq_true hf1
        by_cases hf2 : (M.nl.length : Int) ≤ most
        · have q2 : decide ((M.nl.length : Int) ≤ most) = true := decide_eq_true hf2
          have HFT : Hid (fitsB M most = true) := Lib.hid (by unfold fitsB; rw [q1, q2]; rfl)
          have HTT : Hid (T = (M, true)) := Lib.hid (by rw [HST.out, if_neg (by omega), if_pos ⟨HE0.out, HFT.out⟩])
          go_upto_region 5 with fail
          clear c3' c5' x8
          go_wp2_with (first
            | (refine wpList_load_row rfl 30 (.tmp 11) rfl g11 rfl 30 _ (0, 0) _ HB7.out Try.underlying30 rfl hist_info ?_)
            | (refine wpList_store_to rfl 30 (.tmp 6) _ rfl (q + 1 + 1) (histA M (.slice a3 M.pl.length c3) (.slice b3 M.nl.length d3)) rfl rfl 30 #[.int .i64 0, .int .u64 0, .int .i64 0, .slice none 0 0, .int .i64 0, .slice none 0 0] (HBX.out w7 (HKR.out.trans HK7.out)).2.2 hist_info rfl (histC_one ⟨rfl, rfl⟩) ?_; intro wz hbz kz; have HBZ := Lib.hid hbz; have HKZ := Lib.hid kz; clear hbz kz)
            | fail)
          refine bodyPost_ret (results_ct Try.results27 _ _ (q + 1 + 1) 30 _ (0, 0) _ rfl HBZ.out Try.underlying30 rfl hist_info) rfl ?_
          rw [HTT.out]
          have hn4 := ((HN3.out.on HK67.out).down (HKR.out)).down HK02.out
          exact ⟨a3, b3, c3, d3, rfl, hn4.set (HBX.out w7 (HKR.out.trans HK7.out)).2.2 (by decide) (by have := HGE.out; omega) HKZ.out⟩
        · have q2 : decide ((M.nl.length : Int) ≤ most) = false := decide_eq_false hf2
          by_cases hlast : k + 1 < F
          · have HNX := Lib.hid hlast
            have HTT : Hid (T = togK X Y most (F - (k + 1)) (k + 1)) := Lib.hid (by rw [HST.out, if_neg (by omega), if_neg (by rintro ⟨_, e⟩; unfold fitsB at e; rw [q2, Bool.and_false] at e; cases e)])
            have qs : (x.sc == -10) = false := by rw [beq_eq_false_iff_ne, hcx]; have := HF.out; omega
            clear hcx hlast
            go_upto_region 7 with fail
            clear c3' c5' x8
            go_wp2_with (first
              | (refine wpList_load_row rfl 30 (.tmp 8) rfl g8 rfl 30 _ (0, 0) _ (HK7.out.same HXB.out (fun x => x)) Try.underlying30 rfl hist_info ?_)
              | fail)
            refine (HDX.out w7 HK7.out).mono ?_
            rintro e w8 ⟨pv, nv, rfl, mm1, mm2, _⟩
            obtain ⟨a4, b4, c4, d4, rfl, rfl, hn4⟩ := HN.of mm1 mm2
            have HN4 := Lib.hid hn4
            have HK8 := Lib.hid (HK7.out.trans hn4.mp.kept)
            clear mm1 mm2 hn4
            rw [histV_A]
            have hb8 := HK8.out.same HXB.out (fun x => x)
            go_upto_region 8 with (refine wpList_store_to rfl 30 (.tmp 8) _ rfl g8 (histA (downR x 1) (.slice a4 (downR x 1).pl.length c4) (.slice b4 (downR x 1).nl.length d4)) rfl rfl 30 (histA x (.slice a1 x.pl.length c1) (.slice b1 x.nl.length d1)) hb8 hist_info rfl (histC_one ⟨rfl, rfl⟩) ?_; intro w9 hb9 k9; have HB9 := Lib.hid hb9; have HK9 := Lib.hid k9; clear hb9 k9)
            have HN4b := Lib.hid ((HN4.out.down (HKR.out.trans HK7.out)).set hb8 (by decide) HG2.out HK9.out)
            have HN2c := Lib.hid ((HN2k.out.on HK8.out).set hb8 (by decide) HG2.out HK9.out)
            have HYB9 := Lib.hid (HK9.out.same (HK8.out.same HYB.out (fun x => x)) (by omega))
            have HKw9 : Hid (Kept (fun _ => False) w2 w9) := Lib.hid ((HKR.out.trans HK8.out).newer HK9.out (fun i e => by rw [e]; exact HG2.out))
            have HYD : Hid (Calls Try.prog 16 #[.agg (histA y (.slice a2 y.pl.length c2) (.slice b2 y.nl.length d2)), .int .i64 1] w9 (HistOut w9 (downR y 1) (downE y 1))) := Lib.hid (histDown_any y 1 _ _ w9 (HN2c.out.in_ (by rw [HYK.out]; exact downR_ok' Y k HXY.out.2.1.2)).at_ (by rw [HYK.out]; exact downR_ok' Y k HXY.out.2.1.2) HFY.out.1 HFY.out.2 (by unfold I64; omega))
            unfold HistOut at HYD
            clear hb8
            go_wp2_with (first
              | (refine wpList_load_row rfl 30 (.tmp 9) rfl (g8 + 1) rfl 30 _ (0, 0) _ HYB9.out Try.underlying30 rfl hist_info ?_)
              | fail)
            refine HYD.out.mono ?_
            rintro e w10 ⟨pv, nv, rfl, mm1, mm2, _⟩
            obtain ⟨a5, b5, c5, d5, rfl, rfl, hn5⟩ := HN.of mm1 mm2
            have HN5 := Lib.hid hn5
            have HK10 := Lib.hid hn5.mp.kept
            clear mm1 mm2 hn5
            rw [histV_A]
            have hb10 := HK10.out.same HYB9.out (fun x => x)
            go_upto_region 2 with (refine wpList_store_to rfl 30 (.tmp 9) _ rfl (g8 + 1) (histA (downR y 1) (.slice a5 (downR y 1).pl.length c5) (.slice b5 (downR y 1).nl.length d5)) rfl rfl 30 (histA y (.slice a2 y.pl.length c2) (.slice b2 y.nl.length d2)) hb10 hist_info rfl (histC_one ⟨rfl, rfl⟩) ?_; intro w11 hb11 k11; have HB11 := Lib.hid hb11; have HK11 := Lib.hid k11; clear hb11 k11)
            have HG2' : Hid (w2.heap.size ≤ g8 + 1) := Lib.hid (by have := HG2.out; omega)
            have HN5b := Lib.hid ((HN5.out.down HKw9.out).set hb10 (by decide) HG2'.out HK11.out)
            have HN4c := Lib.hid ((HN4b.out.on HK10.out).set hb10 (by decide) HG2'.out HK11.out)
            have HB9b := Lib.hid (HK11.out.same (HK10.out.same HB9.out (fun x => x)) (by omega))
            clear hb10
            go_roundg (F - (k + 1))
            case measure => have := HKF.out; omega
            case rel =>
              have nx := down_next HXY.out.1.1 (k := k) (by have := HF.out; have := HNX.out; omega)
              have ny := down_next HXY.out.2.1.1 (k := k) (by rw [HXY.out.2.2]; have := HF.out; have := HNX.out; omega)
              refine ⟨k + 1, HNX.out, rfl, HTT.out, (HKw9.out.trans HK10.out).newer HK11.out (fun i e => by rw [e]; exact HG2'.out), a4, b4, c4, d4, a5, b5, c5, d5, ?_⟩
              rw [← nx.2, ← ny.2, ← HXK.out, ← HYK.out]
              exact ⟨HB9b.out, HB11.out, HN4c.out, HN5b.out⟩
          · have HTT : Hid (T = (zeroH, false)) := Lib.hid (by rw [HST.out, if_neg (by omega), if_neg (by rintro ⟨_, e⟩; unfold fitsB at e; rw [q2, Bool.and_false] at e; cases e), show F - (k + 1) = 0 by omega]; rfl)
            have qs : (x.sc == -10) = true := by rw [beq_iff_eq, hcx]; have := HF.out; have := HKF.out; omega
            clear hcx hlast
            go_upto_region 9 with fail
            clear c3' c5' x8
            go_wp2_with (first
              | (refine wpList_store_to rfl 30 (.tmp 6) _ rfl (q + 1 + 1) #[.int .i64 0, .int .u64 0, .int .i64 0, .slice none 0 0, .int .i64 0, .slice none 0 0] rfl rfl 30 #[.int .i64 0, .int .u64 0, .int .i64 0, .slice none 0 0, .int .i64 0, .slice none 0 0] (HBX.out w7 (HKR.out.trans HK7.out)).2.2 hist_info rfl (histC_one (h := zeroH) ⟨rfl, rfl⟩) ?_; intro wz hbz kz; have HBZ := Lib.hid hbz; have HKZ := Lib.hid kz; clear hbz kz)
              | fail)
            refine bodyPost_ret (results_ct Try.results27 _ _ (q + 1 + 1) 30 _ (0, 0) _ rfl HBZ.out Try.underlying30 rfl hist_info) rfl ?_
            rw [HTT.out]
            exact TogOut.zero ((HK02.out.trans (HKR.out.trans HK7.out)).newer HKZ.out (fun i e => by have := HGE.out; omega))
      · have q1 : decide ((M.pl.length : Int) ≤ most) = false := decide_eq_false hf1
        by_cases hlast : k + 1 < F
        · have HNX := Lib.hid hlast
          have HTT : Hid (T = togK X Y most (F - (k + 1)) (k + 1)) := Lib.hid (by rw [HST.out, if_neg (by omega), if_neg (by rintro ⟨_, e⟩; unfold fitsB at e; rw [q1, Bool.false_and] at e; cases e)])
          have qs : (x.sc == -10) = false := by rw [beq_eq_false_iff_ne, hcx]; have := HF.out; omega
          clear hcx hlast
          go_upto_region 7 with fail
          clear c3' c5' x8
          go_wp2_with (first
            | (refine wpList_load_row rfl 30 (.tmp 8) rfl g8 rfl 30 _ (0, 0) _ (HK7.out.same HXB.out (fun x => x)) Try.underlying30 rfl hist_info ?_)
            | fail)
          refine (HDX.out w7 HK7.out).mono ?_
          rintro e w8 ⟨pv, nv, rfl, mm1, mm2, _⟩
          obtain ⟨a4, b4, c4, d4, rfl, rfl, hn4⟩ := HN.of mm1 mm2
          have HN4 := Lib.hid hn4
          have HK8 := Lib.hid (HK7.out.trans hn4.mp.kept)
          clear mm1 mm2 hn4
          rw [histV_A]
          have hb8 := HK8.out.same HXB.out (fun x => x)
          go_upto_region 8 with (refine wpList_store_to rfl 30 (.tmp 8) _ rfl g8 (histA (downR x 1) (.slice a4 (downR x 1).pl.length c4) (.slice b4 (downR x 1).nl.length d4)) rfl rfl 30 (histA x (.slice a1 x.pl.length c1) (.slice b1 x.nl.length d1)) hb8 hist_info rfl (histC_one ⟨rfl, rfl⟩) ?_; intro w9 hb9 k9; have HB9 := Lib.hid hb9; have HK9 := Lib.hid k9; clear hb9 k9)
          have HN4b := Lib.hid ((HN4.out.down (HKR.out.trans HK7.out)).set hb8 (by decide) HG2.out HK9.out)
          have HN2c := Lib.hid ((HN2k.out.on HK8.out).set hb8 (by decide) HG2.out HK9.out)
          have HYB9 := Lib.hid (HK9.out.same (HK8.out.same HYB.out (fun x => x)) (by omega))
          have HKw9 : Hid (Kept (fun _ => False) w2 w9) := Lib.hid ((HKR.out.trans HK8.out).newer HK9.out (fun i e => by rw [e]; exact HG2.out))
          have HYD : Hid (Calls Try.prog 16 #[.agg (histA y (.slice a2 y.pl.length c2) (.slice b2 y.nl.length d2)), .int .i64 1] w9 (HistOut w9 (downR y 1) (downE y 1))) := Lib.hid (histDown_any y 1 _ _ w9 (HN2c.out.in_ (by rw [HYK.out]; exact downR_ok' Y k HXY.out.2.1.2)).at_ (by rw [HYK.out]; exact downR_ok' Y k HXY.out.2.1.2) HFY.out.1 HFY.out.2 (by unfold I64; omega))
          unfold HistOut at HYD
          clear hb8
          go_wp2_with (first
            | (refine wpList_load_row rfl 30 (.tmp 9) rfl (g8 + 1) rfl 30 _ (0, 0) _ HYB9.out Try.underlying30 rfl hist_info ?_)
            | fail)
          refine HYD.out.mono ?_
          rintro e w10 ⟨pv, nv, rfl, mm1, mm2, _⟩
          obtain ⟨a5, b5, c5, d5, rfl, rfl, hn5⟩ := HN.of mm1 mm2
          have HN5 := Lib.hid hn5
          have HK10 := Lib.hid hn5.mp.kept
          clear mm1 mm2 hn5
          rw [histV_A]
          have hb10 := HK10.out.same HYB9.out (fun x => x)
          go_upto_region 2 with (refine wpList_store_to rfl 30 (.tmp 9) _ rfl (g8 + 1) (histA (downR y 1) (.slice a5 (downR y 1).pl.length c5) (.slice b5 (downR y 1).nl.length d5)) rfl rfl 30 (histA y (.slice a2 y.pl.length c2) (.slice b2 y.nl.length d2)) hb10 hist_info rfl (histC_one ⟨rfl, rfl⟩) ?_; intro w11 hb11 k11; have HB11 := Lib.hid hb11; have HK11 := Lib.hid k11; clear hb11 k11)
          have HG2' : Hid (w2.heap.size ≤ g8 + 1) := Lib.hid (by have := HG2.out; omega)
          have HN5b := Lib.hid ((HN5.out.down HKw9.out).set hb10 (by decide) HG2'.out HK11.out)
          have HN4c := Lib.hid ((HN4b.out.on HK10.out).set hb10 (by decide) HG2'.out HK11.out)
          have HB9b := Lib.hid (HK11.out.same (HK10.out.same HB9.out (fun x => x)) (by omega))
          clear hb10
          go_roundg (F - (k + 1))
          case measure => have := HKF.out; omega
          case rel =>
            have nx := down_next HXY.out.1.1 (k := k) (by have := HF.out; have := HNX.out; omega)
            have ny := down_next HXY.out.2.1.1 (k := k) (by rw [HXY.out.2.2]; have := HF.out; have := HNX.out; omega)
            refine ⟨k + 1, HNX.out, rfl, HTT.out, (HKw9.out.trans HK10.out).newer HK11.out (fun i e => by rw [e]; exact HG2'.out), a4, b4, c4, d4, a5, b5, c5, d5, ?_⟩
            rw [← nx.2, ← ny.2, ← HXK.out, ← HYK.out]
            exact ⟨HB9b.out, HB11.out, HN4c.out, HN5b.out⟩
        · have HTT : Hid (T = (zeroH, false)) := Lib.hid (by rw [HST.out, if_neg (by omega), if_neg (by rintro ⟨_, e⟩; unfold fitsB at e; rw [q1, Bool.false_and] at e; cases e), show F - (k + 1) = 0 by omega]; rfl)
          have qs : (x.sc == -10) = true := by rw [beq_iff_eq, hcx]; have := HF.out; have := HKF.out; omega
          clear hcx hlast
          go_upto_region 9 with fail
          clear c3' c5' x8
          go_wp2_with (first
            | (refine wpList_store_to rfl 30 (.tmp 6) _ rfl (q + 1 + 1) #[.int .i64 0, .int .u64 0, .int .i64 0, .slice none 0 0, .int .i64 0, .slice none 0 0] rfl rfl 30 #[.int .i64 0, .int .u64 0, .int .i64 0, .slice none 0 0, .int .i64 0, .slice none 0 0] (HBX.out w7 (HKR.out.trans HK7.out)).2.2 hist_info rfl (histC_one (h := zeroH) ⟨rfl, rfl⟩) ?_; intro wz hbz kz; have HBZ := Lib.hid hbz; have HKZ := Lib.hid kz; clear hbz kz)
            | fail)
          refine bodyPost_ret (results_ct Try.results27 _ _ (q + 1 + 1) 30 _ (0, 0) _ rfl HBZ.out Try.underlying30 rfl hist_info) rfl ?_
          rw [HTT.out]
          exact TogOut.zero ((HK02.out.trans (HKR.out.trans HK7.out)).newer HKZ.out (fun i e => by have := HGE.out; omega))
    · have q0 : (((E : Nat) : Int) == 0) = false := by rw [beq_eq_false_iff_ne]; omega
      by_cases hE4 : E = 4
      · subst hE4
        have HTT : Hid (T = (zeroH, false)) := Lib.hid (by rw [HST.out, if_pos rfl])
        clear hE0 hcx
        go_upto_region 9 with fail
        clear c3' c5' x8
        go_wp2_with (first
          | (refine wpList_store_to rfl 30 (.tmp 6) _ rfl (q + 1 + 1) #[.int .i64 0, .int .u64 0, .int .i64 0, .slice none 0 0, .int .i64 0, .slice none 0 0] rfl rfl 30 #[.int .i64 0, .int .u64 0, .int .i64 0, .slice none 0 0, .int .i64 0, .slice none 0 0] (HBX.out w7 (HKR.out.trans HK7.out)).2.2 hist_info rfl (histC_one (h := zeroH) ⟨rfl, rfl⟩) ?_; intro wz hbz kz; have HBZ := Lib.hid hbz; have HKZ := Lib.hid kz; clear hbz kz)
          | fail)
        refine bodyPost_ret (results_ct Try.results27 _ _ (q + 1 + 1) 30 _ (0, 0) _ rfl HBZ.out Try.underlying30 rfl hist_info) rfl ?_
        rw [HTT.out]
        exact TogOut.zero ((HK02.out.trans (HKR.out.trans HK7.out)).newer HKZ.out (fun i e => by have := HGE.out; omega))
      · have q4 : (((E : Nat) : Int) == 4) = false := by rw [beq_eq_false_iff_ne]; omega
        by_cases hlast : k + 1 < F
        · have HNX := Lib.hid hlast
          have HTT : Hid (T = togK X Y most (F - (k + 1)) (k + 1)) := Lib.hid (by rw [HST.out, if_neg hE4, if_neg (fun e => hE0 e.1)])
          have qs : (x.sc == -10) = false := by rw [beq_eq_false_iff_ne, hcx]; have := HF.out; omega
          clear hcx hlast
          go_upto_region 7 with fail
          clear c3' c5' x8
          go_wp2_with (first
            | (refine wpList_load_row rfl 30 (.tmp 8) rfl g8 rfl 30 _ (0, 0) _ (HK7.out.same HXB.out (fun x => x)) Try.underlying30 rfl hist_info ?_)
            | fail)
          refine (HDX.out w7 HK7.out).mono ?_
          rintro e w8 ⟨pv, nv, rfl, mm1, mm2, _⟩
          obtain ⟨a4, b4, c4, d4, rfl, rfl, hn4⟩ := HN.of mm1 mm2
          have HN4 := Lib.hid hn4
          have HK8 := Lib.hid (HK7.out.trans hn4.mp.kept)
          clear mm1 mm2 hn4
          rw [histV_A]
          have hb8 := HK8.out.same HXB.out (fun x => x)
          go_upto_region 8 with (refine wpList_store_to rfl 30 (.tmp 8) _ rfl g8 (histA (downR x 1) (.slice a4 (downR x 1).pl.length c4) (.slice b4 (downR x 1).nl.length d4)) rfl rfl 30 (histA x (.slice a1 x.pl.length c1) (.slice b1 x.nl.length d1)) hb8 hist_info rfl (histC_one ⟨rfl, rfl⟩) ?_; intro w9 hb9 k9; have HB9 := Lib.hid hb9; have HK9 := Lib.hid k9; clear hb9 k9)
          have HN4b := Lib.hid ((HN4.out.down (HKR.out.trans HK7.out)).set hb8 (by decide) HG2.out HK9.out)
          have HN2c := Lib.hid ((HN2k.out.on HK8.out).set hb8 (by decide) HG2.out HK9.out)
          have HYB9 := Lib.hid (HK9.out.same (HK8.out.same HYB.out (fun x => x)) (by omega))
          have HKw9 : Hid (Kept (fun _ => False) w2 w9) := Lib.hid ((HKR.out.trans HK8.out).newer HK9.out (fun i e => by rw [e]; exact HG2.out))
          have HYD : Hid (Calls Try.prog 16 #[.agg (histA y (.slice a2 y.pl.length c2) (.slice b2 y.nl.length d2)), .int .i64 1] w9 (HistOut w9 (downR y 1) (downE y 1))) := Lib.hid (histDown_any y 1 _ _ w9 (HN2c.out.in_ (by rw [HYK.out]; exact downR_ok' Y k HXY.out.2.1.2)).at_ (by rw [HYK.out]; exact downR_ok' Y k HXY.out.2.1.2) HFY.out.1 HFY.out.2 (by unfold I64; omega))
          unfold HistOut at HYD
          clear hb8
          go_wp2_with (first
            | (refine wpList_load_row rfl 30 (.tmp 9) rfl (g8 + 1) rfl 30 _ (0, 0) _ HYB9.out Try.underlying30 rfl hist_info ?_)
            | fail)
          refine HYD.out.mono ?_
          rintro e w10 ⟨pv, nv, rfl, mm1, mm2, _⟩
          obtain ⟨a5, b5, c5, d5, rfl, rfl, hn5⟩ := HN.of mm1 mm2
          have HN5 := Lib.hid hn5
          have HK10 := Lib.hid hn5.mp.kept
          clear mm1 mm2 hn5
          rw [histV_A]
          have hb10 := HK10.out.same HYB9.out (fun x => x)
          go_upto_region 2 with (refine wpList_store_to rfl 30 (.tmp 9) _ rfl (g8 + 1) (histA (downR y 1) (.slice a5 (downR y 1).pl.length c5) (.slice b5 (downR y 1).nl.length d5)) rfl rfl 30 (histA y (.slice a2 y.pl.length c2) (.slice b2 y.nl.length d2)) hb10 hist_info rfl (histC_one ⟨rfl, rfl⟩) ?_; intro w11 hb11 k11; have HB11 := Lib.hid hb11; have HK11 := Lib.hid k11; clear hb11 k11)
          have HG2' : Hid (w2.heap.size ≤ g8 + 1) := Lib.hid (by have := HG2.out; omega)
          have HN5b := Lib.hid ((HN5.out.down HKw9.out).set hb10 (by decide) HG2'.out HK11.out)
          have HN4c := Lib.hid ((HN4b.out.on HK10.out).set hb10 (by decide) HG2'.out HK11.out)
          have HB9b := Lib.hid (HK11.out.same (HK10.out.same HB9.out (fun x => x)) (by omega))
          clear hb10
          go_roundg (F - (k + 1))
          case measure => have := HKF.out; omega
          case rel =>
            have nx := down_next HXY.out.1.1 (k := k) (by have := HF.out; have := HNX.out; omega)
            have ny := down_next HXY.out.2.1.1 (k := k) (by rw [HXY.out.2.2]; have := HF.out; have := HNX.out; omega)
            refine ⟨k + 1, HNX.out, rfl, HTT.out, (HKw9.out.trans HK10.out).newer HK11.out (fun i e => by rw [e]; exact HG2'.out), a4, b4, c4, d4, a5, b5, c5, d5, ?_⟩
            rw [← nx.2, ← ny.2, ← HXK.out, ← HYK.out]
            exact ⟨HB9b.out, HB11.out, HN4c.out, HN5b.out⟩
        · have HTT : Hid (T = (zeroH, false)) := Lib.hid (by rw [HST.out, if_neg hE4, if_neg (fun e => hE0 e.1), show F - (k + 1) = 0 by omega]; rfl)
          have qs : (x.sc == -10) = true := by rw [beq_iff_eq, hcx]; have := HF.out; have := HKF.out; omega
          clear hcx hlast
          go_upto_region 9 with fail
          clear c3' c5' x8
          go_wp2_with (first
            | (refine wpList_store_to rfl 30 (.tmp 6) _ rfl (q + 1 + 1) #[.int .i64 0, .int .u64 0, .int .i64 0, .slice none 0 0, .int .i64 0, .slice none 0 0] rfl rfl 30 #[.int .i64 0, .int .u64 0, .int .i64 0, .slice none 0 0, .int .i64 0, .slice none 0 0] (HBX.out w7 (HKR.out.trans HK7.out)).2.2 hist_info rfl (histC_one (h := zeroH) ⟨rfl, rfl⟩) ?_; intro wz hbz kz; have HBZ := Lib.hid hbz; have HKZ := Lib.hid kz; clear hbz kz)
            | fail)
          refine bodyPost_ret (results_ct Try.results27 _ _ (q + 1 + 1) 30 _ (0, 0) _ rfl HBZ.out Try.underlying30 rfl hist_info) rfl ?_
          rw [HTT.out]
          exact TogOut.zero ((HK02.out.trans (HKR.out.trans HK7.out)).newer HKZ.out (fun i e => by have := HGE.out; omega))
end Go.Proofs.Ytiiibhdohlpodaa

namespace Go.Proofs.Ytiiibhdohlpodaa
open Go.RowKit
attribute [local go_sem ↓] Go.wp_at_zero Go.wp_at_succ
set_option maxHeartbeats 2000000 in
set_option maxRecDepth 100000 in
theorem more4_any (s : StV) (sp sn : Value) (x : Pnt) (a1 a2 a3 : Option Addr) (c1 c2 c3 : Nat) (most : Int) (W w : World) (n : NewP W w x a1 a2 a3 c1 c2 c3) (hk : x.kind = 4) (hs : HistIn w s.h sp sn) (ho : x.h.ok) (ls1 : s.h.pl.length ≤ 1000000) (ls2 : s.h.nl.length ≤ 1000000) (lx1 : x.h.pl.length ≤ 1000000) (lx2 : x.h.nl.length ≤ 1000000) : Calls Try.prog 50 #[.agg (stC s sp sn), .agg (pntC x (.slice a1 x.L.length c1) (.slice a2 x.h.pl.length c2) (.slice a3 x.h.nl.length c3)), .int .i64 most] w fun e w' => ∃ v, e = .returned v ∧ GotP W w' (moreA s x most) v ∧ Kept (fun _ => False) w w' := by
  have HKI := Lib.hid hk
  have HTG := Lib.hid (fun w' (k : Kept (fun _ => False) w w') => together_any s.h x.h sp sn (.slice a2 x.h.pl.length c2) (.slice a3 x.h.nl.length c3) most w' ⟨hs.at_.on k, hs.ok, hs.cp, hs.cn⟩ ⟨n.pnt.hist.on k, ho, fun a' n' c' e => by injection e with _ e2 e3; have := own_capW n.mp.own; rw [uvals_length] at this; omega, fun a' n' c' e => by injection e with _ e2 e3; have := own_capW n.mn.own; rw [uvals_length] at this; omega⟩ ls1 ls2 lx1 lx2)
  clear hs ho ls1 ls2 lx1 lx2
  have HNA := Lib.hid n
  obtain ⟨av, hav⟩ : ∃ v, v = Value.slice a1 x.L.length c1 := ⟨_, rfl⟩
  obtain ⟨pv, hpv⟩ : ∃ v, v = Value.slice a2 x.h.pl.length c2 := ⟨_, rfl⟩
  obtain ⟨nv, hnv⟩ : ∃ v, v = Value.slice a3 x.h.nl.length c3 := ⟨_, rfl⟩
  have HVS := Lib.hid (And.intro hav (And.intro hpv hnv))
  have hv : Ones av pv nv := by rw [hav, hpv, hnv]; exact ones_slices _ _ _ _ _ _ _ _ _
  rw [← hav, ← hpv, ← hnv]
  have HAV := Lib.hid hv
  obtain ⟨q, hq⟩ : ∃ q, q = w.heap.size := ⟨_, rfl⟩
  obtain ⟨CS, hCS⟩ : ∃ a, a = stC s sp sn := ⟨_, rfl⟩
  obtain ⟨CX, hCX⟩ : ∃ a, a = pntC x av pv nv := ⟨_, rfl⟩
  rw [← hCS, ← hCX]
  obtain ⟨w2, hw2⟩ : ∃ w2, w2 = ((w.alloc (.cells CS 32)).alloc (.cells CX 37)).alloc (.cells #[.string { data := #[] }, .slice none 0 0, .int .i64 0, .int .i64 0, .bool false, .int .i64 0, .int .i64 0, .int .i64 0, .int .u64 0, .int .u64 0, .int .i64 0, .int .u64 0, .int .i64 0, .slice none 0 0, .int .i64 0, .slice none 0 0, .int .i64 0] 37) := ⟨_, rfl⟩
  have k2 : Kept (fun _ => False) w w2 := by rw [hw2]; exact (((Kept.refl _ _).alloc _).alloc _).alloc _
  have hb1 : w2.heap[q]? = some (.cells CS 32 (0, 0)) := by rw [hw2, hq]; exact (((Kept.refl (fun _ => False) _).alloc _).alloc _).same (heap_alloc_new w _) (fun x => x)
  have hb2 : w2.heap[q + 1]? = some (.cells CX 37 (0, 0)) := by rw [hw2, hq]; exact ((Kept.refl (fun _ => False) _).alloc _).same (box_second2 w _ _) (fun x => x)
  have hb3 : w2.heap[q + 1 + 1]? = some (.cells #[.string { data := #[] }, .slice none 0 0, .int .i64 0, .int .i64 0, .bool false, .int .i64 0, .int .i64 0, .int .i64 0, .int .u64 0, .int .u64 0, .int .i64 0, .int .u64 0, .int .i64 0, .slice none 0 0, .int .i64 0, .slice none 0 0, .int .i64 0] 37 (0, 0)) := by rw [hw2, hq]; exact heap_third w _ _ _
  have HK2 := Lib.hid k2
  have HW2 := Lib.hid (And.intro hw2 hq)
  have HB2 := Lib.hid hb2
  have HB3 := Lib.hid hb3
  have HB1 := Lib.hid hb1
  have HCX := Lib.hid hCX
  have HCS := Lib.hid hCS
  have HIX : Hid ((Try.prog.info? 37).map (·.size) = some CX.size ∧ CX.size = 17 ∧ CX.all (·.oneCell') = true) := Lib.hid (by rw [hCX]; exact ⟨point_info, rfl, pntC_one' hv⟩)
  clear hCS hCX k2 hb1 hb2 hb3 hw2 hq hv hav hpv hnv n
  obtain ⟨g8, hg8⟩ : ∃ g, g = w2.heap.size := ⟨_, rfl⟩
  have HG8 := Lib.hid hg8
  have HLT : Hid (q + 1 + 1 < g8) := Lib.hid (by rw [hg8]; exact (Array.getElem?_eq_some_iff.1 HB3.out).1)
  clear hg8
  rw [histV_A, histV_A, ← HVS.out.2.1, ← HVS.out.2.2] at HTG
  obtain ⟨R, hR⟩ : ∃ r, r = togH s.h x.h most := ⟨_, rfl⟩
  rw [← hR] at HTG
  have hm : moreA s x most = if R.2 = true then { x with h := R.1, start := s.start } else { x with flags := 16 } := by unfold moreA; rw [if_neg (by rw [hk]; decide), if_pos hk, ← hR]
  rw [hm]
  obtain ⟨HS, hHS⟩ : ∃ a, a = histA s.h sp sn := ⟨_, rfl⟩
  obtain ⟨HX, hHX⟩ : ∃ a, a = histA x.h pv nv := ⟨_, rfl⟩
  rw [← hHS, ← hHX] at HTG
  have HIH : Hid ((Try.prog.info? 30).map (·.size) = some HS.size ∧ (Try.prog.info? 30).map (·.size) = some HX.size) := Lib.hid (by rw [hHS, hHX]; exact ⟨hist_info, hist_info⟩)
  have HPS : Hid (∀ w' : World, w'.heap[q]? = some (.cells CS 32 (0, 0)) → w'.rangeAt q 6 HS.toList) := Lib.hid (fun w' h => range_part h 6 _ (by rw [HCS.out, hHS]; exact st_hist s _ _))
  have HPX : Hid (∀ w' : World, w'.heap[q + 1]? = some (.cells CX 37 (0, 0)) → w'.rangeAt (q + 1) 10 HX.toList) := Lib.hid (fun w' h => range_part h 10 _ (by rw [HCX.out, hHX]; exact pnt_hist x _ _ _))
  clear hR hm hHS hHX hk
  have HGW : Hid (w.heap.size ≤ g8) := Lib.hid (by have := HLT.out; have := HW2.out.2; omega)
  have HQW : Hid (w.heap.size ≤ q + 1 + 1) := Lib.hid (by have := HW2.out.2; omega)
  by_cases hb : R.2 = true
  · rw [if_pos hb]
    go_enter Try.func50, Try.ntmps50
    go_upto_region 1 with fail
    rw [← HW2.out.1, ← HW2.out.2]
    go_upto_region 3 with (first | (refine wpList_load_row rfl 37 (.tmp 4) rfl (q + 1) rfl 37 _ (0, 0) _ HB2.out Try.underlying37 rfl HIX.out.1 ?_) | (refine wpList_store_box rfl 37 (.tmp 8) _ rfl w2 _ CX 37 rfl rfl rfl HIX.out.1 (by rw [HIX.out.2.1]; rfl) HIX.out.2.2 ?_; intro w3 hb3 k3; have HM3 : Hid (MB w3 q g8 CS CX CX) := Lib.hid ⟨k3.same HB1.out (fun x => x), k3.same HB2.out (fun x => x), k3.same HB3.out (fun x => x), by rw [HG8.out]; exact hb3, HLT.out⟩; have HK3 := Lib.hid (HK2.out.trans k3); clear hb3 k3))
    rw [← HG8.out]
    have p2 : w3.cell? ⟨q + 1, 2, none⟩ = some (.int .i64 4) := cell_rowZ 2 _ HM3.out.bx (by rw [HCX.out, ← HKI.out]; rfl)
    go_upto_region 12 with fail
    clear p2
    go_upto_region 13 with (first | (refine wpList_load_part rfl 30 (.tmp 68) rfl q 6 rfl HS _ (HPS.out w3 HM3.out.bs) Try.underlying30 rfl HIH.out.1 ?_) | (refine wpList_load_part rfl 30 (.tmp 70) rfl (q + 1) 10 rfl HX _ (HPX.out w3 HM3.out.bx) Try.underlying30 rfl HIH.out.2 ?_) | (go_at_call 27; refine (HTG.out w3 HK3.out).mono ?_; rintro e w4 ⟨d2, d3, e2, e3, rfl, hn⟩; have HHN := Lib.hid hn; have HM4 := Lib.hid (HM3.out.on hn.mp.kept); have HK4 := Lib.hid (HK3.out.trans hn.mp.kept); rw [histV_A]; obtain ⟨RA, hRA⟩ : ∃ a, a = histA R.1 (.slice d2 R.1.pl.length e2) (.slice d3 R.1.nl.length e3) := ⟨_, rfl⟩; rw [← hRA]; have HRA := Lib.hid hRA; clear hn hRA; have HIR : Hid ((Try.prog.info? 30).map (·.size) = some RA.size ∧ RA.size = 6 ∧ RA.all (·.oneCell') = true) := Lib.hid (by rw [HRA.out]; exact ⟨hist_info, rfl, histC_one ⟨rfl, rfl⟩⟩)) | (refine wpList_store_mid rfl 30 (.tmp 76) _ rfl g8 10 RA rfl rfl (by rw [HIR.out.2.1]; exact box_there HM4.out.b8 10 6 (by rw [HIX.out.2.1]; decide)) HIR.out.1 HIR.out.2.2 ?_))
    obtain ⟨w5, hw5⟩ : ∃ w', w' = w4.setCells g8 10 RA.toList := ⟨_, rfl⟩
    rw [← hw5]
    have h7 := setCells6 HM4.out.b8 10 (.int .i64 R.1.sc) (.int .u64 (R.1.ze : Int)) (.int .i64 R.1.po) (.slice d2 R.1.pl.length e2) (.int .i64 R.1.no) (.slice d3 R.1.nl.length e3)
    rw [show [Value.int .i64 R.1.sc, .int .u64 (R.1.ze : Int), .int .i64 R.1.po, .slice d2 R.1.pl.length e2, .int .i64 R.1.no, .slice d3 R.1.nl.length e3] = RA.toList by rw [HRA.out]; rfl, ← hw5] at h7
    obtain ⟨SX, hSX⟩ : ∃ a, a = pntC { x with h := R.1 } av (.slice d2 R.1.pl.length e2) (.slice d3 R.1.nl.length e3) := ⟨_, rfl⟩
    have HSX := Lib.hid hSX
    have HM5 : Hid (MB w5 q g8 CS CX SX) := Lib.hid (HM4.out.out h7.2 (by rw [h7.1, hSX, HCX.out]; rfl))
    have HK5 := Lib.hid (HK4.out.newer h7.2 (fun i e => by have := HLT.out; have := HW2.out.2; omega))
    have HK45 := Lib.hid h7.2
    have HAW : Hid (Ones av (.slice d2 R.1.pl.length e2) (.slice d3 R.1.nl.length e3)) := Lib.hid ⟨HAV.out.1, rfl, rfl⟩
    clear hw5 h7 hSX
    clear hb
    have c5' : w5.cell? ⟨g8, 5, none⟩ = some (.int .i64 x.start) := cell_rowZ 5 _ HM5.out.b8 (by rw [HSX.out]; rfl)
    have f5' := free_of_rowZ 5 HM5.out.b8
    have s1' : w5.cell? ⟨q, 1, none⟩ = some (.int .i64 s.start) := cell_rowZ 1 _ HM5.out.bs (by rw [HCS.out]; rfl)
    go_upto_region 17 with fail
    obtain ⟨wE, hwE⟩ : ∃ w', w' = w5.setCell ⟨g8, 5, none⟩ (.int .i64 s.start) := ⟨_, rfl⟩
    obtain ⟨NX, hNX⟩ : ∃ a, a = pntC { x with h := R.1, start := s.start } av (.slice d2 R.1.pl.length e2) (.slice d3 R.1.nl.length e3) := ⟨_, rfl⟩
    have hE := HM5.out.put 5 (.int .i64 s.start) (SX' := NX) (by rw [hNX, HSX.out]; rfl)
    rw [← hwE] at hE
    have HME := Lib.hid hE.1
    have HKF := Lib.hid hE.2
    have HKE := Lib.hid (HK5.out.newer hE.2 (fun i e => by have := HLT.out; have := HW2.out.2; omega))
    have HIN : Hid ((Try.prog.info? 37).map (·.size) = some NX.size ∧ (#[.string { data := #[] }, .slice none 0 0, .int .i64 0, .int .i64 0, .bool false, .int .i64 0, .int .i64 0, .int .i64 0, .int .u64 0, .int .u64 0, .int .i64 0, .int .u64 0, .int .i64 0, .slice none 0 0, .int .i64 0, .slice none 0 0, .int .i64 0] : Array Value).size = NX.size ∧ NX.all (·.oneCell') = true) := Lib.hid (by rw [hNX]; exact ⟨point_info, rfl, pntC_one' HAW.out⟩)
    have HNX := Lib.hid hNX
    rw [← hwE]
    clear hwE hE hNX c5' f5' s1'
    go_wp2_with (first
      | (refine wpList_load_row rfl 37 (.tmp 8) rfl g8 rfl 37 _ (0, 0) _ HME.out.b8 Try.underlying37 rfl HIN.out.1 ?_)
      | (refine wpList_store_row rfl 37 (.tmp 6) _ rfl (q + 1 + 1) NX rfl rfl 37 _ HME.out.bz HIN.out.1 HIN.out.2.1 HIN.out.2.2 ?_)
      | fail)
    refine bodyPost_ret (results_cell_row Try.results50 _ _ (q + 1 + 1) 37 _ (0, 0) _ rfl (setRow_heap _ _ _ _ _ _ HME.out.bz) Try.underlying37 rfl HIN.out.1) rfl ?_
    have kF := HKE.out.newer (setRow_keptW wE (q + 1 + 1) NX) (fun i e => by have := HW2.out.2; omega)
    have n5 : HN w w5 R.1 d2 d3 e2 e3 := (HHN.out.down HK3.out).set HM4.out.b8 (by decide) HGW.out HK45.out
    have n6 : HN w wE R.1 d2 d3 e2 e3 := n5.set HM5.out.b8 (by decide) HGW.out HKF.out
    have n7 := n6.set HME.out.bz (by decide) HQW.out (setRow_keptW wE (q + 1 + 1) NX)
    refine ⟨_, rfl, ?_, kF⟩
    refine ⟨a1, d2, d3, c1, e2, e3, by rw [HNX.out, HVS.out.1]; rfl, ⟨HNA.out.at_.on kF, n7.mp.down HNA.out.at_.kept, n7.mn.down HNA.out.at_.kept⟩⟩
  · rw [if_neg hb]
    have hb' : R.2 = false := by simpa using hb
    clear hb
    go_enter Try.func50, Try.ntmps50
    go_upto_region 1 with fail
    rw [← HW2.out.1, ← HW2.out.2]
    go_upto_region 3 with (first | (refine wpList_load_row rfl 37 (.tmp 4) rfl (q + 1) rfl 37 _ (0, 0) _ HB2.out Try.underlying37 rfl HIX.out.1 ?_) | (refine wpList_store_box rfl 37 (.tmp 8) _ rfl w2 _ CX 37 rfl rfl rfl HIX.out.1 (by rw [HIX.out.2.1]; rfl) HIX.out.2.2 ?_; intro w3 hb3 k3; have HM3 : Hid (MB w3 q g8 CS CX CX) := Lib.hid ⟨k3.same HB1.out (fun x => x), k3.same HB2.out (fun x => x), k3.same HB3.out (fun x => x), by rw [HG8.out]; exact hb3, HLT.out⟩; have HK3 := Lib.hid (HK2.out.trans k3); clear hb3 k3))
    rw [← HG8.out]
    have p2 : w3.cell? ⟨q + 1, 2, none⟩ = some (.int .i64 4) := cell_rowZ 2 _ HM3.out.bx (by rw [HCX.out, ← HKI.out]; rfl)
    go_upto_region 12 with fail
    clear p2
    go_upto_region 13 with (first | (refine wpList_load_part rfl 30 (.tmp 68) rfl q 6 rfl HS _ (HPS.out w3 HM3.out.bs) Try.underlying30 rfl HIH.out.1 ?_) | (refine wpList_load_part rfl 30 (.tmp 70) rfl (q + 1) 10 rfl HX _ (HPX.out w3 HM3.out.bx) Try.underlying30 rfl HIH.out.2 ?_) | (go_at_call 27; refine (HTG.out w3 HK3.out).mono ?_; rintro e w4 ⟨d2, d3, e2, e3, rfl, hn⟩; have HHN := Lib.hid hn; have HM4 := Lib.hid (HM3.out.on hn.mp.kept); have HK4 := Lib.hid (HK3.out.trans hn.mp.kept); rw [histV_A]; obtain ⟨RA, hRA⟩ : ∃ a, a = histA R.1 (.slice d2 R.1.pl.length e2) (.slice d3 R.1.nl.length e3) := ⟨_, rfl⟩; rw [← hRA]; have HRA := Lib.hid hRA; clear hn hRA; have HIR : Hid ((Try.prog.info? 30).map (·.size) = some RA.size ∧ RA.size = 6 ∧ RA.all (·.oneCell') = true) := Lib.hid (by rw [HRA.out]; exact ⟨hist_info, rfl, histC_one ⟨rfl, rfl⟩⟩)) | (refine wpList_store_mid rfl 30 (.tmp 76) _ rfl g8 10 RA rfl rfl (by rw [HIR.out.2.1]; exact box_there HM4.out.b8 10 6 (by rw [HIX.out.2.1]; decide)) HIR.out.1 HIR.out.2.2 ?_))
    obtain ⟨w5, hw5⟩ : ∃ w', w' = w4.setCells g8 10 RA.toList := ⟨_, rfl⟩
    rw [← hw5]
    have h7 := setCells6 HM4.out.b8 10 (.int .i64 R.1.sc) (.int .u64 (R.1.ze : Int)) (.int .i64 R.1.po) (.slice d2 R.1.pl.length e2) (.int .i64 R.1.no) (.slice d3 R.1.nl.length e3)
    rw [show [Value.int .i64 R.1.sc, .int .u64 (R.1.ze : Int), .int .i64 R.1.po, .slice d2 R.1.pl.length e2, .int .i64 R.1.no, .slice d3 R.1.nl.length e3] = RA.toList by rw [HRA.out]; rfl, ← hw5] at h7
    obtain ⟨SX, hSX⟩ : ∃ a, a = pntC { x with h := R.1 } av (.slice d2 R.1.pl.length e2) (.slice d3 R.1.nl.length e3) := ⟨_, rfl⟩
    have HSX := Lib.hid hSX
    have HM5 : Hid (MB w5 q g8 CS CX SX) := Lib.hid (HM4.out.out h7.2 (by rw [h7.1, hSX, HCX.out]; rfl))
    have HK5 := Lib.hid (HK4.out.newer h7.2 (fun i e => by have := HLT.out; have := HW2.out.2; omega))
    have HK45 := Lib.hid h7.2
    have HAW : Hid (Ones av (.slice d2 R.1.pl.length e2) (.slice d3 R.1.nl.length e3)) := Lib.hid ⟨HAV.out.1, rfl, rfl⟩
    clear hw5 h7 hSX
    clear hb'
    have c16' : w5.cell? ⟨q + 1, 16, none⟩ = some (.int .i64 x.flags) := cell_rowZ 16 _ HM5.out.bx (by rw [HCX.out]; rfl)
    have f16' := free_of_rowZ 16 HM5.out.bx
    go_upto_region 15 with fail
    obtain ⟨wE, hwE⟩ : ∃ w', w' = w5.setCell ⟨q + 1, 16, none⟩ (.int .i64 16) := ⟨_, rfl⟩
    obtain ⟨NX, hNX⟩ : ∃ a, a = pntC { x with flags := 16 } av pv nv := ⟨_, rfl⟩
    have hE := HM5.out.putX 16 (.int .i64 16) (CX' := NX) (by rw [hNX, HCX.out]; rfl)
    rw [← hwE] at hE
    have HME := Lib.hid hE.1
    have HKE := Lib.hid (HK5.out.newer hE.2 (fun i e => by have := HW2.out.2; omega))
    have HIN : Hid ((Try.prog.info? 37).map (·.size) = some NX.size ∧ (#[.string { data := #[] }, .slice none 0 0, .int .i64 0, .int .i64 0, .bool false, .int .i64 0, .int .i64 0, .int .i64 0, .int .u64 0, .int .u64 0, .int .i64 0, .int .u64 0, .int .i64 0, .slice none 0 0, .int .i64 0, .slice none 0 0, .int .i64 0] : Array Value).size = NX.size ∧ NX.all (·.oneCell') = true) := Lib.hid (by rw [hNX]; exact ⟨point_info, rfl, pntC_one' HAV.out⟩)
    have HNX := Lib.hid hNX
    rw [← hwE]
    clear hwE hE hNX c16' f16'
    go_wp2_with (first
      | (refine wpList_load_row rfl 37 (.tmp 4) rfl (q + 1) rfl 37 _ (0, 0) _ HME.out.bx Try.underlying37 rfl HIN.out.1 ?_)
      | (refine wpList_store_row rfl 37 (.tmp 6) _ rfl (q + 1 + 1) NX rfl rfl 37 _ HME.out.bz HIN.out.1 HIN.out.2.1 HIN.out.2.2 ?_)
      | fail)
    refine bodyPost_ret (results_cell_row Try.results50 _ _ (q + 1 + 1) 37 _ (0, 0) _ rfl (setRow_heap _ _ _ _ _ _ HME.out.bz) Try.underlying37 rfl HIN.out.1) rfl ?_
    have kF := HKE.out.newer (setRow_keptW wE (q + 1 + 1) NX) (fun i e => by have := HW2.out.2; omega)
    obtain ⟨wF, hwF⟩ : ∃ w', w' = wE.setRow (q + 1 + 1) NX := ⟨_, rfl⟩
    rw [← hwF] at kF ⊢
    refine ⟨_, rfl, ?_, kF⟩
    rw [HNX.out, HVS.out.1, HVS.out.2.1, HVS.out.2.2]
    exact GotP.parts (y := { x with flags := 16 }) (HNA.out.on kF) ⟨rfl, rfl⟩
end Go.Proofs.Ytiiibhdohlpodaa

namespace Go.Proofs.Ytiiibhdohlpodaa
open Go.RowKit
theorem chk_parts {x : Pnt} (h : chk x = 0) : checkE x.name x.L = 0 ∧ kindB x = true ∧ ¬ ((x.mono = true ∧ sumB x = false) ∨ timesB x = false) ∧ ¬ (ownB x = false ∨ x.flags < 0 ∨ 31 < x.flags) ∧ ¬ (x.mono = true ∧ finI x.re = false) ∧ ¬ (x.mono = true ∧ (x.whole < 0 ∨ lessI x.re 0 = true)) ∧ x.h.err = 0 := by
  unfold chk at h
  by_cases h1 : checkE x.name x.L ≠ 0
  · rw [if_pos h1] at h; exact absurd h h1
  rw [if_neg h1] at h
  by_cases h2 : kindB x = false
  · rw [if_pos h2] at h; omega
  rw [if_neg h2] at h
  by_cases h3 : (x.mono = true ∧ sumB x = false) ∨ timesB x = false
  · rw [if_pos h3] at h; omega
  rw [if_neg h3] at h
  by_cases h4 : ownB x = false ∨ x.flags < 0 ∨ 31 < x.flags
  · rw [if_pos h4] at h; omega
  rw [if_neg h4] at h
  by_cases h5 : x.mono = true ∧ finI x.re = false
  · rw [if_pos h5] at h; omega
  rw [if_neg h5] at h
  by_cases h6 : x.mono = true ∧ (x.whole < 0 ∨ lessI x.re 0 = true)
  · rw [if_pos h6] at h; omega
  rw [if_neg h6] at h
  exact ⟨Decidable.not_not.1 h1, by simpa using h2, h3, h4, h5, h6, h⟩
theorem chk_of {x : Pnt} (h1 : checkE x.name x.L = 0) (h2 : kindB x = true) (h3 : ¬ ((x.mono = true ∧ sumB x = false) ∨ timesB x = false)) (h4 : ¬ (ownB x = false ∨ x.flags < 0 ∨ 31 < x.flags)) (h5 : ¬ (x.mono = true ∧ finI x.re = false)) (h6 : ¬ (x.mono = true ∧ (x.whole < 0 ∨ lessI x.re 0 = true))) (h7 : x.h.err = 0) : chk x = 0 := by
  unfold chk
  rw [if_neg (by omega), if_neg (by rw [h2]; decide), if_neg h3, if_neg h4, if_neg h5, if_neg h6, h7]
theorem takenE_zero {x : Pnt} {t : Int} (h : takenE x t = 0) : chk x = 0 ∧ x.temp = t ∧ x.flags = 0 := by
  unfold takenE at h
  by_cases h1 : chk x ≠ 0
  · rw [if_pos h1] at h; exact absurd h h1
  rw [if_neg h1] at h
  by_cases h2 : x.temp ≠ t
  · rw [if_pos h2] at h; omega
  rw [if_neg h2] at h
  by_cases h3 : x.flags ≠ 0
  · rw [if_pos h3] at h; omega
  exact ⟨Decidable.not_not.1 h1, Decidable.not_not.1 h2, Decidable.not_not.1 h3⟩
end Go.Proofs.Ytiiibhdohlpodaa

