/- Layer 16: the document's Together (written by tools/gen_XOL.py). -/
import Derived.Test.YtiiibhdohlpodaaOY
import Derived.Test.YtiiibhdohlpodaaOJ
namespace Go.Proofs.Ytiiibhdohlpodaa
open Go.RowKit
attribute [local go_sem ↓] Go.wp_at_zero Go.wp_at_succ

theorem range_box {w : World} {g : Nat} {cs : Array Value} {T : TypeId} (h : w.heap[g]? = some (.cells cs T (0, 0))) (o : Nat) (ds : List Value) (hd : ∀ j v, ds[j]? = some v → cs[o + j]? = some v) : w.rangeAt g o ds := fun j v hv => cell_rowZ (o + j) v h (hd j v hv)
set_option maxHeartbeats 16000000 in
set_option maxRecDepth 100000 in
theorem refTogether_any (a b : HistV) (ap an bp bn : Value) (most : Int) (w : World) (ha : HistIn w a ap an) (hb : HistIn w b bp bn) (la1 : a.pl.length ≤ 1000000) (la2 : a.nl.length ≤ 1000000) (lb1 : b.pl.length ≤ 1000000) (lb2 : b.nl.length ≤ 1000000) :
    Calls Try.prog 28 #[histV a ap an, histV b bp bn, .int .i64 most] w (TogOut w (togH a b most)) := by
  obtain ⟨q, hq⟩ : ∃ q, q = w.heap.size := ⟨_, rfl⟩
  have HLV := Lib.hid (fun w' (k : Kept (fun _ => False) w w') => refLevel_any a b _ _ _ _ w' ⟨ha.at_.on k, ha.ok, ha.cp, ha.cn⟩ ⟨hb.at_.on k, hb.ok, hb.cp, hb.cn⟩ la1 la2 lb1 lb2)
  unfold PairOut at HLV
  rw [histV_A, histV_A] at HLV ⊢
  obtain ⟨CA, hCA⟩ : ∃ c, c = histA a ap an := ⟨_, rfl⟩
  obtain ⟨CB, hCB⟩ : ∃ c, c = histA b bp bn := ⟨_, rfl⟩
  rw [← hCA, ← hCB] at HLV
  rw [← hCA, ← hCB]
  have HIA : Hid ((Try.prog.info? 30).map (·.size) = some CA.size ∧ (Try.prog.info? 30).map (·.size) = some CB.size) := Lib.hid (by rw [hCA, hCB]; exact ⟨hist_info, hist_info⟩)
  obtain ⟨w2, hw2⟩ : ∃ w2, w2 = ((w.alloc (.cells CA 30)).alloc (.cells CB 30)).alloc (.cells #[.int .i64 0, .int .u64 0, .int .i64 0, .slice none 0 0, .int .i64 0, .slice none 0 0] 30) := ⟨_, rfl⟩
  have k2 : Kept (fun _ => False) w w2 := by rw [hw2]; exact (((Kept.refl _ _).alloc _).alloc _).alloc _
  have hb1 : w2.heap[q]? = some (.cells CA 30 (0, 0)) ∧ w2.heap[q + 1]? = some (.cells CB 30 (0, 0)) ∧ w2.heap[q + 1 + 1]? = some (.cells #[.int .i64 0, .int .u64 0, .int .i64 0, .slice none 0 0, .int .i64 0, .slice none 0 0] 30 (0, 0)) := by rw [hw2, hq]; exact ⟨(((Kept.refl (fun _ => False) _).alloc _).alloc _).same (heap_alloc_new w _) (fun x => x), ((Kept.refl (fun _ => False) _).alloc _).same (box_second2 w _ _) (fun x => x), heap_third w _ _ _⟩
  have HBX : Hid (∀ w', Kept (fun _ => False) w2 w' → w'.heap[q]? = some (.cells CA 30 (0, 0)) ∧ w'.heap[q + 1]? = some (.cells CB 30 (0, 0)) ∧ w'.heap[q + 1 + 1]? = some (.cells #[.int .i64 0, .int .u64 0, .int .i64 0, .slice none 0 0, .int .i64 0, .slice none 0 0] 30 (0, 0))) := Lib.hid (fun w' k => ⟨k.same hb1.1 (fun x => x), k.same hb1.2.1 (fun x => x), k.same hb1.2.2 (fun x => x)⟩)
  have HW2 := Lib.hid (And.intro hw2 hq)
  have HK02 := Lib.hid k2
  have HGE : Hid (w.heap.size ≤ q) := Lib.hid (by omega)
  unfold togH
  obtain ⟨X, hX⟩ : ∃ h, h = levX a b := ⟨_, rfl⟩
  obtain ⟨Y, hY⟩ : ∃ h, h = levY a b := ⟨_, rfl⟩
  rw [← hX, ← hY] at HLV
  obtain ⟨n, hn⟩ : ∃ n : Int, n = ((levE a b : Nat) : Int) := ⟨_, rfl⟩
  by_cases hE : levE a b = 0
  case neg =>
    rw [if_neg hE]
    have HNE := Lib.hid hn
    have q1 : (n != 0) = true := by rw [bne_iff_ne]; omega
    clear hn hE hX hY hCA hCB hw2 hq k2 hb1 ha hb la1 la2 lb1 lb2
    go_enter Try.func28, Try.ntmps28
    go_upto_region 1 with fail
    rw [← HW2.out.1, ← HW2.out.2]
    go_wp2_with (first
      | (refine wpList_load_row rfl 30 (.tmp 3) rfl q rfl 30 _ (0, 0) _ (HBX.out w2 (Kept.refl _ _)).1 Try.underlying30 rfl HIA.out.1 ?_)
      | (refine wpList_load_row rfl 30 (.tmp 4) rfl (q + 1) rfl 30 _ (0, 0) _ (HBX.out w2 (Kept.refl _ _)).2.1 Try.underlying30 rfl HIA.out.2 ?_)
      | fail)
    refine (HLV.out w2 HK02.out).mono ?_
    rintro e w3 ⟨p1, n1, p2, n2, rfl, m1, m2, m3, m4⟩
    obtain ⟨a1, b1, c1, d1, rfl, rfl, hn1⟩ := HN.of m1 m2
    obtain ⟨a2, b2, c2, d2, rfl, rfl, hn2⟩ := HN.of m3 m4
    have HN1 := Lib.hid hn1
    have HN2 := Lib.hid hn2
    have HK3 := Lib.hid hn1.mp.kept
    clear m1 m2 m3 m4 hn1 hn2
    rw [pairV_A, ← HNE.out]
    obtain ⟨g8, hg8⟩ : ∃ g, g = w3.heap.size := ⟨_, rfl⟩
    have HG8 := Lib.hid hg8
    clear hg8
    go_upto_region 2 with (refine wpList_store_box rfl 89 (.tmp 8) _ rfl w3 _ (pairA X Y (.slice a1 X.pl.length c1) (.slice b1 X.nl.length d1) (.slice a2 Y.pl.length c2) (.slice b2 Y.nl.length d2) n) 89 rfl rfl rfl (pairA_info _ _ _ _ _ _ _) rfl (pairA_one _ _ _ _ _ _ _ _ _ _ _ _ _ _ _) ?_; intro w5 hb5 k5; have HX5 : Hid (w5.heap[g8]? = some (.cells (pairA X Y (.slice a1 X.pl.length c1) (.slice b1 X.nl.length d1) (.slice a2 Y.pl.length c2) (.slice b2 Y.nl.length d2) n) 89 (0, 0))) := Lib.hid (by rw [HG8.out]; exact hb5); have HK35 := Lib.hid k5; clear hb5 k5)
    rw [← HG8.out]
    have HK25 := Lib.hid (HK3.out.trans HK35.out)
    have HN1b := Lib.hid (HN1.out.on HK35.out)
    have HN2b := Lib.hid (HN2.out.on HK35.out)
    clear HN1 HN2
    have p12 : w5.cell? ⟨g8, 12, none⟩ = some (.int .i64 n) := cell_rowZ 12 _ HX5.out rfl
    go_upto_region 3 with fail
    clear p12
    go_wp2_with (first
      | (refine wpList_store_to rfl 30 (.tmp 6) _ rfl (q + 1 + 1) #[.int .i64 0, .int .u64 0, .int .i64 0, .slice none 0 0, .int .i64 0, .slice none 0 0] rfl rfl 30 #[.int .i64 0, .int .u64 0, .int .i64 0, .slice none 0 0, .int .i64 0, .slice none 0 0] (HBX.out w5 HK25.out).2.2 hist_info rfl (histC_one (h := zeroH) ⟨rfl, rfl⟩) ?_; intro wz hbz kz; have HBZ := Lib.hid hbz; have HKZ := Lib.hid kz; clear hbz kz)
      | fail)
    refine bodyPost_ret (results_ct Try.results28 _ _ (q + 1 + 1) 30 _ (0, 0) _ rfl HBZ.out Try.underlying30 rfl hist_info) rfl ?_
    exact TogOut.zero ((HK02.out.trans HK25.out).newer HKZ.out (fun i e => by have := HGE.out; omega))
  rw [if_pos hE, ← hX, ← hY]
  have hn0 : n = 0 := by omega
  obtain ⟨r1, r2, r3, r4, r5, r6, _, _⟩ := lev_right hE ha.ok hb.ok
  obtain ⟨s1, s2⟩ := lev_sc hE ha.ok hb.ok
  rw [← hX] at r3 r5 s1
  rw [← hY] at r4 r6 s2
  have HXY := Lib.hid (And.intro (And.intro r3 r5) (And.intro (And.intro r4 r6) (s2.trans s1.symm)))
  have HNE := Lib.hid hn
  have q1 : (n != 0) = false := by rw [hn0]; rfl
  clear hn hn0 hE hX hY hCA hCB hw2 hq k2 hb1 ha hb la1 la2 lb1 lb2 r1 r2 r3 r4 r5 r6 s1 s2
  have HF : Hid ((togF X : Int) = X.sc + 11) := Lib.hid (by have := err_sc HXY.out.1.1; unfold togF; omega)
  obtain ⟨F, hF⟩ : ∃ f, f = togF X := ⟨_, rfl⟩
  rw [← hF] at HF ⊢
  clear hF
  obtain ⟨T, hT⟩ : ∃ t, t = togK X Y most F 0 := ⟨_, rfl⟩
  rw [← hT]
  have HT := Lib.hid hT
  clear hT
  go_enter Try.func28, Try.ntmps28
  go_upto_region 1 with fail
  rw [← HW2.out.1, ← HW2.out.2]
  go_wp2_with (first
    | (refine wpList_load_row rfl 30 (.tmp 3) rfl q rfl 30 _ (0, 0) _ (HBX.out w2 (Kept.refl _ _)).1 Try.underlying30 rfl HIA.out.1 ?_)
    | (refine wpList_load_row rfl 30 (.tmp 4) rfl (q + 1) rfl 30 _ (0, 0) _ (HBX.out w2 (Kept.refl _ _)).2.1 Try.underlying30 rfl HIA.out.2 ?_)
    | fail)
  refine (HLV.out w2 HK02.out).mono ?_
  rintro e w3 ⟨p1, n1, p2, n2, rfl, m1, m2, m3, m4⟩
  obtain ⟨a1, b1, c1, d1, rfl, rfl, hn1⟩ := HN.of m1 m2
  obtain ⟨a2, b2, c2, d2, rfl, rfl, hn2⟩ := HN.of m3 m4
  have HN1 := Lib.hid hn1
  have HN2 := Lib.hid hn2
  have HK3 := Lib.hid hn1.mp.kept
  clear m1 m2 m3 m4 hn1 hn2
  rw [pairV_A, ← HNE.out]
  obtain ⟨g8, hg8⟩ : ∃ g, g = w3.heap.size := ⟨_, rfl⟩
  have HG8 := Lib.hid hg8
  clear hg8
  go_upto_region 2 with (refine wpList_store_box rfl 89 (.tmp 8) _ rfl w3 _ (pairA X Y (.slice a1 X.pl.length c1) (.slice b1 X.nl.length d1) (.slice a2 Y.pl.length c2) (.slice b2 Y.nl.length d2) n) 89 rfl rfl rfl (pairA_info _ _ _ _ _ _ _) rfl (pairA_one _ _ _ _ _ _ _ _ _ _ _ _ _ _ _) ?_; intro w5 hb5 k5; have HX5 : Hid (w5.heap[g8]? = some (.cells (pairA X Y (.slice a1 X.pl.length c1) (.slice b1 X.nl.length d1) (.slice a2 Y.pl.length c2) (.slice b2 Y.nl.length d2) n) 89 (0, 0))) := Lib.hid (by rw [HG8.out]; exact hb5); have HK35 := Lib.hid k5; clear hb5 k5)
  rw [← HG8.out]
  have HK25 := Lib.hid (HK3.out.trans HK35.out)
  have HN1b := Lib.hid (HN1.out.on HK35.out)
  have HN2b := Lib.hid (HN2.out.on HK35.out)
  clear HN1 HN2
  have p12 : w5.cell? ⟨g8, 12, none⟩ = some (.int .i64 n) := cell_rowZ 12 _ HX5.out rfl
  have p0 : w5.cell? ⟨g8, 0, none⟩ = some (.int .i64 X.sc) := cell_rowZ 0 _ HX5.out rfl
  go_wp2
  go_loopg [9] F (fun g s9 wr => ∃ k : Nat, k ≤ F ∧ g = F - k ∧ s9 = .int .i64 (X.sc - (k : Int)) ∧ T = togK X Y most (F - k) k ∧ Kept (fun _ => False) w5 wr)
  case atStart => exact ⟨0, Nat.zero_le _, rfl, by rw [show X.sc - ((0 : Nat) : Int) = X.sc by omega], HT.out, Kept.refl _ _⟩
  case round =>
    obtain ⟨k, hk, rfl, rfl, ht, kr⟩ := hrel
    have HKR := Lib.hid kr
    have HK2R := Lib.hid (HK25.out.trans kr)
    obtain ⟨s, hs⟩ : ∃ s, s = X.sc - (k : Int) := ⟨_, rfl⟩
    rw [← hs]
    by_cases hkF : k < F
    case neg =>
      have HTT : Hid (T = (zeroH, false)) := Lib.hid (by rw [ht, show F - k = 0 by omega]; rfl)
      have qs : decide (-10 ≤ s) = false := decide_eq_false (by rw [hs]; have := HF.out; omega)
      clear hk ht kr hs hkF p12 p0
      go_upto_region 14 with fail
      go_wp2_with (first
        | (refine wpList_store_to rfl 30 (.tmp 6) _ rfl (q + 1 + 1) #[.int .i64 0, .int .u64 0, .int .i64 0, .slice none 0 0, .int .i64 0, .slice none 0 0] rfl rfl 30 #[.int .i64 0, .int .u64 0, .int .i64 0, .slice none 0 0, .int .i64 0, .slice none 0 0] (HBX.out wr HK2R.out).2.2 hist_info rfl (histC_one (h := zeroH) ⟨rfl, rfl⟩) ?_; intro wz hbz kz; have HBZ := Lib.hid hbz; have HKZ := Lib.hid kz; clear hbz kz)
        | fail)
      refine bodyPost_ret (results_ct Try.results28 _ _ (q + 1 + 1) 30 _ (0, 0) _ rfl HBZ.out Try.underlying30 rfl hist_info) rfl ?_
      rw [HTT.out]
      exact TogOut.zero ((HK02.out.trans HK2R.out).newer HKZ.out (fun i e => by have := HGE.out; omega))
    have hkx : (k : Int) ≤ X.sc + 10 := by have := HF.out; omega
    obtain ⟨x0, x1, x2, x3⟩ := down_at HXY.out.1.1 hkx
    obtain ⟨y0, y1, y2, y3⟩ := down_at HXY.out.2.1.1 (k := k) (by rw [HXY.out.2.2]; exact hkx)
    have qs : decide (-10 ≤ s) = true := decide_eq_true (by rw [hs]; omega)
    have hsc := err_sc HXY.out.1.1
    have wd : IntKind.i64.wrap (X.sc - s) = (k : Int) := by rw [IntWalk.i64_in _ ⟨by omega, by omega⟩]; omega
    have ws : IntKind.i64.wrap (s - 1) = X.sc - ((k + 1 : Nat) : Int) := by rw [IntWalk.i64_in _ ⟨by omega, by omega⟩]; omega
    have HKI : Hid (I64 (k : Int)) := Lib.hid (by unfold I64; omega)
    have HXB := Lib.hid (kr.same HX5.out (fun x => x))
    have HN1r := Lib.hid (HN1b.out.on kr)
    have HN2r := Lib.hid (HN2b.out.on kr)
    have HDX := Lib.hid (fun w' (kk : Kept (fun _ => False) wr w') => refDown_any X (k : Int) _ _ w' ((HN1r.out.on kk).in_ HXY.out.1.2).at_ HXY.out.1.2 (few_err HXY.out.1.1).1 (few_err HXY.out.1.1).2 HKI.out ((HN1r.out.on kk).in_ HXY.out.1.2).cp ((HN1r.out.on kk).in_ HXY.out.1.2).cn)
    have HDY := Lib.hid (fun w' (kk : Kept (fun _ => False) wr w') => refDown_any Y (k : Int) _ _ w' ((HN2r.out.on kk).in_ HXY.out.2.1.2).at_ HXY.out.2.1.2 (few_err HXY.out.2.1.1).1 (few_err HXY.out.2.1.1).2 HKI.out ((HN2r.out.on kk).in_ HXY.out.2.1.2).cp ((HN2r.out.on kk).in_ HXY.out.2.1.2).cn)
    unfold HistOut at HDX HDY
    rw [x0] at HDX
    rw [y0] at HDY
    have HMG := Lib.hid (fun a b c d a' b' c' d' w' (h1 : HN w2 w' (downR X k) a b c d) (h2 : HN w2 w' (downR Y k) a' b' c' d') => ref9Merge_any _ _ _ _ _ _ w' (h1.in_ (downR_ok' X k HXY.out.1.2)) (h2.in_ (downR_ok' Y k HXY.out.2.1.2)) (few_err x2).1 (few_err x2).2 (few_err y2).1 (few_err y2).2)
    have hst : T = if mgE (downR X k) (downR Y k) = 4 then (zeroH, false) else if mgE (downR X k) (downR Y k) = 0 ∧ fitsB (mgH (downR X k) (downR Y k)) most = true then (mgH (downR X k) (downR Y k), true) else togK X Y most (F - (k + 1)) (k + 1) := by
      rw [ht, show F - k = (F - (k + 1)) + 1 by omega, togK]
    have HST := Lib.hid hst
    obtain ⟨M, hM⟩ : ∃ m, m = mgH (downR X k) (downR Y k) := ⟨_, rfl⟩
    obtain ⟨E, hE⟩ : ∃ m, m = mgE (downR X k) (downR Y k) := ⟨_, rfl⟩
    rw [← hM, ← hE] at HMG HST
    unfold HistNew at HMG
    obtain ⟨x, hxk⟩ : ∃ h, h = downR X (k : Int) := ⟨_, rfl⟩
    obtain ⟨y, hyk⟩ : ∃ h, h = downR Y (k : Int) := ⟨_, rfl⟩
    rw [← hxk] at HDX HMG
    rw [← hyk] at HDY HMG
    have HKF := Lib.hid hkF
    have px : wr.cell? ⟨g8, 0, none⟩ = some (.int .i64 X.sc) := cell_rowZ 0 _ HXB.out rfl
    clear hk ht kr hs hkx x0 x1 x2 x3 y0 y1 y2 y3 hsc hst hM hE hxk hyk hkF p12 p0
    go_wp2_with (first
      | (refine wpList_load_part rfl 30 (.tmp 31) rfl g8 0 rfl (histA X (.slice a1 X.pl.length c1) (.slice b1 X.nl.length d1)) _ (range_box HXB.out 0 _ (fun j v hv => by rcases j with _ | _ | _ | _ | _ | _ | j; all_goals first | exact hv | cases hv)) Try.underlying30 rfl hist_info ?_)
      | fail)
    rw [← histV_A]
    refine (HDX.out wr (Kept.refl _ _)).mono ?_
    rintro e w6 ⟨pv, nv, rfl, mm1, mm2, _⟩
    obtain ⟨a3, b3, c3, d3, rfl, rfl, hn3⟩ := HN.of mm1 mm2
    have HN3 := Lib.hid hn3
    have HK6 := Lib.hid hn3.mp.kept
    clear mm1 mm2 hn3 px
    rw [histV_A]
    obtain ⟨g10, hg10⟩ : ∃ g, g = w6.heap.size := ⟨_, rfl⟩
    have HG10 := Lib.hid hg10
    clear hg10
    go_upto_region 8 with (refine wpList_store_box rfl 30 (.tmp 10) _ rfl w6 _ (histA x (.slice a3 x.pl.length c3) (.slice b3 x.nl.length d3)) 30 rfl rfl rfl hist_info rfl (histC_one ⟨rfl, rfl⟩) ?_; intro w7 hb7 k7; have HB7 : Hid (w7.heap[g10]? = some (.cells (histA x (.slice a3 x.pl.length c3) (.slice b3 x.nl.length d3)) 30 (0, 0))) := Lib.hid (by rw [HG10.out]; exact hb7); have HK67 := Lib.hid k7; have HK7 := Lib.hid (HK6.out.trans k7); clear hb7 k7)
    rw [← HG10.out]
    have HN3b := Lib.hid ((HN3.out.on HK67.out).down HK2R.out)
    have HXB7 := Lib.hid (HK7.out.same HXB.out (fun x => x))
    have px : w7.cell? ⟨g8, 0, none⟩ = some (.int .i64 X.sc) := cell_rowZ 0 _ HXB7.out rfl
    go_wp2_with (first
      | (refine wpList_load_part rfl 30 (.tmp 42) rfl g8 6 rfl (histA Y (.slice a2 Y.pl.length c2) (.slice b2 Y.nl.length d2)) _ (range_box HXB7.out 6 _ (fun j v hv => by rcases j with _ | _ | _ | _ | _ | _ | j; all_goals first | exact hv | cases hv)) Try.underlying30 rfl hist_info ?_)
      | fail)
    rw [← histV_A]
    refine (HDY.out w7 HK7.out).mono ?_
    rintro e w8 ⟨pv, nv, rfl, mm1, mm2, _⟩
    obtain ⟨a4, b4, c4, d4, rfl, rfl, hn4⟩ := HN.of mm1 mm2
    have HN4 := Lib.hid hn4
    have HK8 := Lib.hid hn4.mp.kept
    clear mm1 mm2 hn4 px
    rw [histV_A]
    obtain ⟨g12, hg12⟩ : ∃ g, g = w8.heap.size := ⟨_, rfl⟩
    have HG12 := Lib.hid hg12
    clear hg12
    go_upto_region 9 with (refine wpList_store_box rfl 30 (.tmp 12) _ rfl w8 _ (histA y (.slice a4 y.pl.length c4) (.slice b4 y.nl.length d4)) 30 rfl rfl rfl hist_info rfl (histC_one ⟨rfl, rfl⟩) ?_; intro w9 hb9 k9; have HB9 : Hid (w9.heap[g12]? = some (.cells (histA y (.slice a4 y.pl.length c4) (.slice b4 y.nl.length d4)) 30 (0, 0))) := Lib.hid (by rw [HG12.out]; exact hb9); have HK89 := Lib.hid k9; have HK9 := Lib.hid (HK8.out.trans k9); clear hb9 k9)
    rw [← HG12.out]
    have HN4b := Lib.hid ((HN4.out.on HK89.out).down (HK2R.out.trans HK7.out))
    have HN3c := Lib.hid (HN3b.out.on HK9.out)
    have HB7c := Lib.hid (HK9.out.same HB7.out (fun x => x))
    go_wp2_with (first
      | (refine wpList_load_row rfl 30 (.tmp 10) rfl g10 rfl 30 _ (0, 0) _ HB7c.out Try.underlying30 rfl hist_info ?_)
      | (refine wpList_load_row rfl 30 (.tmp 12) rfl g12 rfl 30 _ (0, 0) _ HB9.out Try.underlying30 rfl hist_info ?_)
      | fail)
    rw [← histV_A, ← histV_A]
    refine (HMG.out _ _ _ _ _ _ _ _ w9 HN3c.out HN4b.out).mono ?_
    rintro e w10 ⟨pm, nm, rfl, mm1, mm2⟩
    obtain ⟨a5, b5, c5, d5, rfl, rfl, hn5⟩ := HN.of mm1 mm2
    have HN5 := Lib.hid hn5
    have HK10 := Lib.hid hn5.mp.kept
    clear mm1 mm2 hn5
    rw [histV_A, histV_A, histV_A]
    obtain ⟨g14, hg14⟩ : ∃ g, g = w10.heap.size := ⟨_, rfl⟩
    have HG14 := Lib.hid hg14
    clear hg14
    go_upto_region 10 with (refine wpList_store_box rfl 30 (.tmp 14) _ rfl w10 _ (histA M (.slice a5 M.pl.length c5) (.slice b5 M.nl.length d5)) 30 rfl rfl rfl hist_info rfl (histC_one ⟨rfl, rfl⟩) ?_; intro w11 hb11 k11; have HB11 : Hid (w11.heap[g14]? = some (.cells (histA M (.slice a5 M.pl.length c5) (.slice b5 M.nl.length d5)) 30 (0, 0))) := Lib.hid (by rw [HG14.out]; exact hb11); have HK1011 := Lib.hid k11; clear hb11 k11)
    rw [← HG14.out]
    have HKA : Hid (Kept (fun _ => False) wr w11) := Lib.hid ((HK7.out.trans HK9.out).trans (HK10.out.trans HK1011.out))
    have HK2A := Lib.hid (HK2R.out.trans HKA.out)
    have c3' : w11.cell? ⟨g14, 3, none⟩ = some (.slice a5 M.pl.length c5) := cell_rowZ 3 _ HB11.out rfl
    have c5' : w11.cell? ⟨g14, 5, none⟩ = some (.slice b5 M.nl.length d5) := cell_rowZ 5 _ HB11.out rfl
    by_cases hE4 : E = 4
    · subst hE4
      have HTT : Hid (T = (zeroH, false)) := Lib.hid (by rw [HST.out, if_pos rfl])
      go_upto_region 11 with fail
      clear c3' c5'
      go_wp2_with (first
        | (refine wpList_store_to rfl 30 (.tmp 6) _ rfl (q + 1 + 1) #[.int .i64 0, .int .u64 0, .int .i64 0, .slice none 0 0, .int .i64 0, .slice none 0 0] rfl rfl 30 #[.int .i64 0, .int .u64 0, .int .i64 0, .slice none 0 0, .int .i64 0, .slice none 0 0] (HBX.out w11 HK2A.out).2.2 hist_info rfl (histC_one (h := zeroH) ⟨rfl, rfl⟩) ?_; intro wz hbz kz; have HBZ := Lib.hid hbz; have HKZ := Lib.hid kz; clear hbz kz)
        | fail)
      refine bodyPost_ret (results_ct Try.results28 _ _ (q + 1 + 1) 30 _ (0, 0) _ rfl HBZ.out Try.underlying30 rfl hist_info) rfl ?_
      rw [HTT.out]
      exact TogOut.zero ((HK02.out.trans HK2A.out).newer HKZ.out (fun i e => by have := HGE.out; omega))
    have q4 : (((E : Nat) : Int) == 4) = false := by rw [beq_eq_false_iff_ne]; omega
    by_cases hE0 : E = 0
    · subst hE0
      by_cases hf1 : (M.pl.length : Int) ≤ most
      · have q1' : decide ((M.pl.length : Int) ≤ most) = true := decide_eq_true hf1
        by_cases hf2 : (M.nl.length : Int) ≤ most
        · have q2 : decide ((M.nl.length : Int) ≤ most) = true := decide_eq_true hf2
          have HFT : Hid (fitsB M most = true) := Lib.hid (by unfold fitsB; rw [q1', q2]; rfl)
          have HTT : Hid (T = (M, true)) := Lib.hid (by rw [HST.out, if_neg (by omega), if_pos ⟨rfl, HFT.out⟩])
          go_upto_region 13 with fail
          clear c3' c5'
          go_wp2_with (first
            | (refine wpList_load_row rfl 30 (.tmp 14) rfl g14 rfl 30 _ (0, 0) _ HB11.out Try.underlying30 rfl hist_info ?_)
            | (refine wpList_store_to rfl 30 (.tmp 6) _ rfl (q + 1 + 1) (histA M (.slice a5 M.pl.length c5) (.slice b5 M.nl.length d5)) rfl rfl 30 #[.int .i64 0, .int .u64 0, .int .i64 0, .slice none 0 0, .int .i64 0, .slice none 0 0] (HBX.out w11 HK2A.out).2.2 hist_info rfl (histC_one ⟨rfl, rfl⟩) ?_; intro wz hbz kz; have HBZ := Lib.hid hbz; have HKZ := Lib.hid kz; clear hbz kz)
            | fail)
          refine bodyPost_ret (results_ct Try.results28 _ _ (q + 1 + 1) 30 _ (0, 0) _ rfl HBZ.out Try.underlying30 rfl hist_info) rfl ?_
          rw [HTT.out]
          have hn6 := ((HN5.out.on HK1011.out).down ((HK2R.out.trans HK7.out).trans HK9.out)).down HK02.out
          exact ⟨a5, b5, c5, d5, rfl, hn6.set (HBX.out w11 HK2A.out).2.2 (by decide) (by have := HGE.out; omega) HKZ.out⟩
        · have q2 : decide ((M.nl.length : Int) ≤ most) = false := decide_eq_false hf2
          have HTT : Hid (T = togK X Y most (F - (k + 1)) (k + 1)) := Lib.hid (by rw [HST.out, if_neg (by omega), if_neg (by rintro ⟨_, e⟩; unfold fitsB at e; rw [q2, Bool.and_false] at e; cases e)])
          go_wp2
          go_roundg (F - (k + 1))
          case measure => have := HKF.out; omega
          case rel => exact ⟨k + 1, HKF.out, rfl, rfl, HTT.out, HKR.out.trans HKA.out⟩
      · have q1' : decide ((M.pl.length : Int) ≤ most) = false := decide_eq_false hf1
        have HTT : Hid (T = togK X Y most (F - (k + 1)) (k + 1)) := Lib.hid (by rw [HST.out, if_neg (by omega), if_neg (by rintro ⟨_, e⟩; unfold fitsB at e; rw [q1', Bool.false_and] at e; cases e)])
        go_wp2
        go_roundg (F - (k + 1))
        case measure => have := HKF.out; omega
        case rel => exact ⟨k + 1, HKF.out, rfl, rfl, HTT.out, HKR.out.trans HKA.out⟩
    · have q0 : (((E : Nat) : Int) == 0) = false := by rw [beq_eq_false_iff_ne]; omega
      have HTT : Hid (T = togK X Y most (F - (k + 1)) (k + 1)) := Lib.hid (by rw [HST.out, if_neg hE4, if_neg (fun e => hE0 e.1)])
      go_wp2
      go_roundg (F - (k + 1))
      case measure => have := HKF.out; omega
      case rel => exact ⟨k + 1, HKF.out, rfl, rfl, HTT.out, HKR.out.trans HKA.out⟩
end Go.Proofs.Ytiiibhdohlpodaa
