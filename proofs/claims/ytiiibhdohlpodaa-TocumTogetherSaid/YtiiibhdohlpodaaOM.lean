/- Layer 16: the walk of TocumTogether (written by tools/gen_XOM.py). -/
import Derived.Test.YtiiibhdohlpodaaOE
import Derived.Test.YtiiibhdohlpodaaOL
namespace Go.Proofs.Ytiiibhdohlpodaa
open Go.RowKit
attribute [local go_sem ↓] Go.wp_at_zero Go.wp_at_succ

theorem togK_false {X Y R : HistV} {most : Int} (f : Nat) : ∀ k : Nat, togK X Y most f k = (R, false) → R = zeroH := by
  induction f with
  | zero => intro k h; simp only [togK, Prod.mk.injEq, and_true] at h; exact h.symm
  | succ f ih =>
    intro k h
    rw [togK] at h
    split at h
    · simp only [Prod.mk.injEq, and_true] at h; exact h.symm
    · split at h
      · simp at h
      · exact ih (k + 1) h
theorem togH_false {a b R : HistV} {most : Int} (h : togH a b most = (R, false)) : R.pl.length = 0 ∧ R.nl.length = 0 := by
  have : R = zeroH := by
    unfold togH at h
    split at h
    · exact togK_false _ _ h
    · simp only [Prod.mk.injEq, and_true] at h; exact h.symm
  rw [this]
  exact ⟨rfl, rfl⟩
set_option maxHeartbeats 16000000 in
set_option maxRecDepth 100000 in
theorem tocumTogether_walk (a : HistV) (ap an : Value) (b : HistV) (bp bn : Value) (most : Int) (W : World) (ha : HistIn W a ap an) (hb : HistIn W b bp bn) (_ : -9223372036854775808 ≤ most ∧ most ≤ 9223372036854775807) :
    Calls Try.prog 7 #[histV a ap an, histV b bp bn, .int .i64 most] W fun e w' => e = .returned (.bool true) ∧ Kept (fun _ => False) W w' := by
  have HAW := Lib.hid (fun w => awake16_any w)
  obtain ⟨q, hq⟩ : ∃ q, q = W.heap.size := ⟨_, rfl⟩
  have HLA := Lib.hid (fun w (k : Kept (fun _ => False) W w) => refLight_any a _ _ w (ha.at_.on k))
  have HLB := Lib.hid (fun w (k : Kept (fun _ => False) W w) => refLight_any b _ _ w (hb.at_.on k))
  have HTO := Lib.hid (fun w (k : Kept (fun _ => False) W w) (l1 : a.pl.length ≤ 1000000) (l2 : a.nl.length ≤ 1000000) (l3 : b.pl.length ≤ 1000000) (l4 : b.nl.length ≤ 1000000) => together_any a b ap an bp bn most w ⟨ha.at_.on k, ha.ok, ha.cp, ha.cn⟩ ⟨hb.at_.on k, hb.ok, hb.cp, hb.cn⟩ l1 l2 l3 l4)
  have HRT := Lib.hid (fun w (k : Kept (fun _ => False) W w) (l1 : a.pl.length ≤ 1000000) (l2 : a.nl.length ≤ 1000000) (l3 : b.pl.length ≤ 1000000) (l4 : b.nl.length ≤ 1000000) => refTogether_any a b ap an bp bn most w ⟨ha.at_.on k, ha.ok, ha.cp, ha.cn⟩ ⟨hb.at_.on k, hb.ok, hb.cp, hb.cn⟩ l1 l2 l3 l4)
  have HTA := Lib.hid (fun w (k : Kept (fun _ => False) W w) (l1 : a.pl.length ≤ 1000000) (l2 : a.nl.length ≤ 1000000) => histTotal_any a ap an w (ha.at_.on k) ha.ok.ze l1 l2 ha.ok.pl ha.ok.nl)
  have HTB := Lib.hid (fun w (k : Kept (fun _ => False) W w) (l1 : b.pl.length ≤ 1000000) (l2 : b.nl.length ≤ 1000000) => histTotal_any b bp bn w (hb.at_.on k) hb.ok.ze l1 l2 hb.ok.pl hb.ok.nl)
  have HRI := Lib.hid (fun R (h : togH a b most = (R, true)) => togH_right ha.ok hb.ok h)
  rw [histV_A] at HLA HLB HTA HTB
  rw [histV_A, histV_A] at HTO HRT ⊢
  obtain ⟨CA, hCA⟩ : ∃ c, c = histA a ap an := ⟨_, rfl⟩
  obtain ⟨CB, hCB⟩ : ∃ c, c = histA b bp bn := ⟨_, rfl⟩
  rw [← hCA, ← hCB] at HTO HRT
  rw [← hCA] at HLA HTA
  rw [← hCB] at HLB HTB
  rw [← hCA, ← hCB]
  have HIA : Hid ((Try.prog.info? 30).map (·.size) = some CA.size ∧ (Try.prog.info? 30).map (·.size) = some CB.size) := Lib.hid (by rw [hCA, hCB]; exact ⟨hist_info, hist_info⟩)
  obtain ⟨w2, hw2⟩ : ∃ w2, w2 = (W.alloc (.cells CA 30)).alloc (.cells CB 30) := ⟨_, rfl⟩
  have k2 : Kept (fun _ => False) W w2 := by rw [hw2]; exact ((Kept.refl _ _).alloc _).alloc _
  have hb1 : w2.heap[q]? = some (.cells CA 30 (0, 0)) ∧ w2.heap[q + 1]? = some (.cells CB 30 (0, 0)) := by rw [hw2, hq]; exact ⟨((Kept.refl (fun _ => False) _).alloc _).same (heap_alloc_new W _) (fun x => x), box_second2 W _ _⟩
  have HBX : Hid (∀ w', Kept (fun _ => False) w2 w' → w'.heap[q]? = some (.cells CA 30 (0, 0)) ∧ w'.heap[q + 1]? = some (.cells CB 30 (0, 0))) := Lib.hid (fun w' k => ⟨k.same hb1.1 (fun x => x), k.same hb1.2 (fun x => x)⟩)
  have HW2 := Lib.hid (And.intro hw2 hq)
  have HK02 := Lib.hid k2
  clear hw2 hq k2 hb1 hCA hCB ha hb
  by_cases l1 : a.pl.length ≤ 300 ∧ a.nl.length ≤ 300
  case neg =>
    rw [decide_eq_false l1] at HLA
    clear l1
    go_enter Try.func7, Try.ntmps7
    go_upto_region 1 with fail
    rw [← HW2.out.1, ← HW2.out.2]
    go_wp2_with fail
    refine (HAW.out w2).mono ?_
    rintro e w3 ⟨rfl, k3⟩
    have HK3 := Lib.hid k3
    have HB3 := Lib.hid (HBX.out w3 k3)
    clear k3
    go_wp2_with (first
      | (refine wpList_load_row rfl 30 (.tmp 3) rfl q rfl 30 _ (0, 0) _ HB3.out.1 Try.underlying30 rfl HIA.out.1 ?_)
      | fail)
    refine (HLA.out w3 (HK02.out.trans HK3.out)).mono ?_
    rintro e w4 ⟨rfl, k4⟩
    have HK4 := Lib.hid (HK3.out.trans k4)
    have HB4 := Lib.hid (HBX.out w4 HK4.out)
    clear k4
    go_wp2
    go_ret
    exact ⟨rfl, HK02.out.trans HK4.out⟩
  by_cases l2 : b.pl.length ≤ 300 ∧ b.nl.length ≤ 300
  case neg =>
    rw [decide_eq_true l1] at HLA
    rw [decide_eq_false l2] at HLB
    clear l1 l2
    go_enter Try.func7, Try.ntmps7
    go_upto_region 1 with fail
    rw [← HW2.out.1, ← HW2.out.2]
    go_wp2_with fail
    refine (HAW.out w2).mono ?_
    rintro e w3 ⟨rfl, k3⟩
    have HK3 := Lib.hid k3
    have HB3 := Lib.hid (HBX.out w3 k3)
    clear k3
    go_wp2_with (first
      | (refine wpList_load_row rfl 30 (.tmp 3) rfl q rfl 30 _ (0, 0) _ HB3.out.1 Try.underlying30 rfl HIA.out.1 ?_)
      | fail)
    refine (HLA.out w3 (HK02.out.trans HK3.out)).mono ?_
    rintro e w4 ⟨rfl, k4⟩
    have HK4 := Lib.hid (HK3.out.trans k4)
    have HB4 := Lib.hid (HBX.out w4 HK4.out)
    clear k4
    go_wp2_with (first
      | (refine wpList_load_row rfl 30 (.tmp 4) rfl (q + 1) rfl 30 _ (0, 0) _ HB4.out.2 Try.underlying30 rfl HIA.out.2 ?_)
      | (refine wpList_load_rowG rfl 30 (.tmp 4) rfl (q + 1) rfl 30 _ (0, 0) _ HB4.out.2 Try.underlying30 rfl HIA.out.2 ?_)
      | fail)
    refine (HLB.out w4 (HK02.out.trans HK4.out)).mono ?_
    rintro e w5 ⟨rfl, k5⟩
    have HK5 := Lib.hid (HK4.out.trans k5)
    have HB5 := Lib.hid (HBX.out w5 HK5.out)
    clear k5
    go_wp2
    go_ret
    exact ⟨rfl, HK02.out.trans HK5.out⟩
  rw [decide_eq_true l1] at HLA
  rw [decide_eq_true l2] at HLB
  have HLN : Hid ((a.pl.length ≤ 1000000 ∧ a.nl.length ≤ 1000000) ∧ (b.pl.length ≤ 1000000 ∧ b.nl.length ≤ 1000000)) := Lib.hid (by omega)
  clear l1 l2
  unfold TogOut at HTO HRT
  obtain ⟨R, hR⟩ : ∃ r, r = (togH a b most).1 := ⟨_, rfl⟩
  obtain ⟨is, his⟩ : ∃ r, r = (togH a b most).2 := ⟨_, rfl⟩
  have HRB : Hid (togH a b most = (R, is)) := Lib.hid (by rw [hR, his])
  rw [← hR, ← his] at HTO HRT
  clear hR his
  cases is with
  | false =>
    have HRL : Hid (R.pl.length ≤ 1000000 ∧ R.nl.length ≤ 1000000) := Lib.hid (by obtain ⟨a1, a2⟩ := togH_false HRB.out; rw [a1, a2]; exact ⟨Nat.zero_le _, Nat.zero_le _⟩)
    go_enter Try.func7, Try.ntmps7
    go_upto_region 1 with fail
    rw [← HW2.out.1, ← HW2.out.2]
    go_wp2_with fail
    refine (HAW.out w2).mono ?_
    rintro e w3 ⟨rfl, k3⟩
    have HK3 := Lib.hid k3
    have HB3 := Lib.hid (HBX.out w3 k3)
    clear k3
    go_wp2_with (first
      | (refine wpList_load_row rfl 30 (.tmp 3) rfl q rfl 30 _ (0, 0) _ HB3.out.1 Try.underlying30 rfl HIA.out.1 ?_)
      | fail)
    refine (HLA.out w3 (HK02.out.trans HK3.out)).mono ?_
    rintro e w4 ⟨rfl, k4⟩
    have HK4 := Lib.hid (HK3.out.trans k4)
    have HB4 := Lib.hid (HBX.out w4 HK4.out)
    clear k4
    go_wp2_with (first
      | (refine wpList_load_row rfl 30 (.tmp 4) rfl (q + 1) rfl 30 _ (0, 0) _ HB4.out.2 Try.underlying30 rfl HIA.out.2 ?_)
      | (refine wpList_load_rowG rfl 30 (.tmp 4) rfl (q + 1) rfl 30 _ (0, 0) _ HB4.out.2 Try.underlying30 rfl HIA.out.2 ?_)
      | fail)
    refine (HLB.out w4 (HK02.out.trans HK4.out)).mono ?_
    rintro e w5 ⟨rfl, k5⟩
    have HK5 := Lib.hid (HK4.out.trans k5)
    have HB5 := Lib.hid (HBX.out w5 HK5.out)
    clear k5
    go_wp2_with (first
      | (refine wpList_load_row rfl 30 (.tmp 3) rfl q rfl 30 _ (0, 0) _ HB5.out.1 Try.underlying30 rfl HIA.out.1 ?_)
      | (refine wpList_load_row rfl 30 (.tmp 4) rfl (q + 1) rfl 30 _ (0, 0) _ HB5.out.2 Try.underlying30 rfl HIA.out.2 ?_)
      | fail)
    refine (HTO.out w5 (HK02.out.trans HK5.out) HLN.out.1.1 HLN.out.1.2 HLN.out.2.1 HLN.out.2.2).mono ?_
    rintro e w6 ⟨a1, b1, c1, d1, rfl, hn1⟩
    have HN1 := Lib.hid hn1
    have HK6 := Lib.hid (HK5.out.trans hn1.mp.kept)
    clear hn1
    rw [histV_A]
    obtain ⟨g7, hg7⟩ : ∃ g, g = w6.heap.size := ⟨_, rfl⟩
    have HG7 := Lib.hid hg7
    clear hg7
    go_upto_region 6 with (refine wpList_store_box rfl 30 (.tmp 7) _ rfl w6 _ (histA R (.slice a1 R.pl.length c1) (.slice b1 R.nl.length d1)) 30 rfl rfl rfl hist_info rfl (histC_one ⟨rfl, rfl⟩) ?_; intro w7 hb7 k7; have HB7 : Hid (w7.heap[g7]? = some (.cells (histA R (.slice a1 R.pl.length c1) (.slice b1 R.nl.length d1)) 30 (0, 0))) := Lib.hid (by rw [HG7.out]; exact hb7); have HK67 := Lib.hid k7; have HK7 := Lib.hid (HK6.out.trans k7); clear hb7 k7)
    rw [← HG7.out]
    have HN1b := Lib.hid (HN1.out.on HK67.out)
    have HBb := Lib.hid (HBX.out w7 HK7.out)
    go_wp2_with (first
      | (refine wpList_load_row rfl 30 (.tmp 3) rfl q rfl 30 _ (0, 0) _ HBb.out.1 Try.underlying30 rfl HIA.out.1 ?_)
      | (refine wpList_load_row rfl 30 (.tmp 4) rfl (q + 1) rfl 30 _ (0, 0) _ HBb.out.2 Try.underlying30 rfl HIA.out.2 ?_)
      | fail)
    refine (HRT.out w7 (HK02.out.trans HK7.out) HLN.out.1.1 HLN.out.1.2 HLN.out.2.1 HLN.out.2.2).mono ?_
    rintro e w8 ⟨a2, b2, c2, d2, rfl, hn2⟩
    have HN2 := Lib.hid hn2
    have HK8 := Lib.hid hn2.mp.kept
    clear hn2
    rw [histV_A]
    obtain ⟨g9, hg9⟩ : ∃ g, g = w8.heap.size := ⟨_, rfl⟩
    have HG9 := Lib.hid hg9
    clear hg9
    go_upto_region 7 with (refine wpList_store_box rfl 30 (.tmp 9) _ rfl w8 _ (histA R (.slice a2 R.pl.length c2) (.slice b2 R.nl.length d2)) 30 rfl rfl rfl hist_info rfl (histC_one ⟨rfl, rfl⟩) ?_; intro w9 hb9 k9; have HB9 : Hid (w9.heap[g9]? = some (.cells (histA R (.slice a2 R.pl.length c2) (.slice b2 R.nl.length d2)) 30 (0, 0))) := Lib.hid (by rw [HG9.out]; exact hb9); have HK89 := Lib.hid k9; have HK9 := Lib.hid (HK8.out.trans k9); clear hb9 k9)
    rw [← HG9.out]
    have HN1c := Lib.hid (HN1b.out.on HK9.out)
    have HN2b := Lib.hid (HN2.out.on HK89.out)
    have HB7c := Lib.hid (HK9.out.same HB7.out (fun x => x))
    have HK9w := Lib.hid (HK7.out.trans HK9.out)
    have HSM : Hid (Calls Try.prog 18 #[.agg (histA R (.slice a1 R.pl.length c1) (.slice b1 R.nl.length d1)), .agg (histA R (.slice a2 R.pl.length c2) (.slice b2 R.nl.length d2))] w9 fun e w' => e = .returned (.bool true) ∧ Kept (fun _ => False) w9 w') := Lib.hid (by
      have := refSame_any R R _ _ _ _ w9 ⟨HN1c.out.mp.at_, HN1c.out.mn.at_⟩ ⟨HN2b.out.mp.at_, HN2b.out.mn.at_⟩ HRL.out.1 HRL.out.2
      rw [decide_eq_true ((sameH_iff R R).2 rfl)] at this
      exact this)
    go_wp2_with (first
      | (refine wpList_load_row rfl 30 (.tmp 7) rfl g7 rfl 30 _ (0, 0) _ HB7c.out Try.underlying30 rfl hist_info ?_)
      | (refine wpList_load_row rfl 30 (.tmp 9) rfl g9 rfl 30 _ (0, 0) _ HB9.out Try.underlying30 rfl hist_info ?_)
      | fail)
    refine HSM.out.mono ?_
    rintro e w10 ⟨rfl, k10⟩
    have HK10 := Lib.hid k10
    have HKX := Lib.hid (HK9w.out.trans k10)
    clear k10
    go_wp2
    go_ret
    exact ⟨rfl, HK02.out.trans HKX.out⟩
  | true =>
    obtain ⟨e1, e2, e3, e4, e5, e6⟩ := HRI.out R HRB.out
    have HRL : Hid (R.pl.length ≤ 1000000 ∧ R.nl.length ≤ 1000000) := Lib.hid (few_err e3)
    have HRO := Lib.hid e6
    have HRE := Lib.hid e3
    have t1 := (err_light e1).2.2.2
    have t2 := (err_light e2).2.2.2
    have t3 := (err_light e3).2.2.2
    unfold totV at HTA HTB
    rw [if_pos t1, decide_eq_true t1] at HTA
    rw [if_pos t2, decide_eq_true t2] at HTB
    obtain ⟨TA, hTA⟩ : ∃ t : Int, t = ((a.total : Nat) : Int) := ⟨_, rfl⟩
    obtain ⟨TB, hTB⟩ : ∃ t : Int, t = ((b.total : Nat) : Int) := ⟨_, rfl⟩
    obtain ⟨TR, hTR⟩ : ∃ t : Int, t = ((R.total : Nat) : Int) := ⟨_, rfl⟩
    rw [← hTA] at HTA
    rw [← hTB] at HTB
    have HTL := Lib.hid (And.intro t3 hTR)
    have wt : IntKind.u64.wrap (TA + TB) = TR := by rw [IntKind.wrap_u64]; omega
    have qt : (TR == TR) = true := by simp
    have HFT : Hid (decide ((R.pl.length : Int) ≤ most) = true ∧ decide ((R.nl.length : Int) ≤ most) = true) := Lib.hid (by unfold fitsB at e5; simpa using e5)
    clear e1 e2 e3 e4 e5 e6 t1 t2 t3 hTA hTB hTR
    go_enter Try.func7, Try.ntmps7
    go_upto_region 1 with fail
    rw [← HW2.out.1, ← HW2.out.2]
    go_wp2_with fail
    refine (HAW.out w2).mono ?_
    rintro e w3 ⟨rfl, k3⟩
    have HK3 := Lib.hid k3
    have HB3 := Lib.hid (HBX.out w3 k3)
    clear k3
    go_wp2_with (first
      | (refine wpList_load_row rfl 30 (.tmp 3) rfl q rfl 30 _ (0, 0) _ HB3.out.1 Try.underlying30 rfl HIA.out.1 ?_)
      | fail)
    refine (HLA.out w3 (HK02.out.trans HK3.out)).mono ?_
    rintro e w4 ⟨rfl, k4⟩
    have HK4 := Lib.hid (HK3.out.trans k4)
    have HB4 := Lib.hid (HBX.out w4 HK4.out)
    clear k4
    go_wp2_with (first
      | (refine wpList_load_row rfl 30 (.tmp 4) rfl (q + 1) rfl 30 _ (0, 0) _ HB4.out.2 Try.underlying30 rfl HIA.out.2 ?_)
      | (refine wpList_load_rowG rfl 30 (.tmp 4) rfl (q + 1) rfl 30 _ (0, 0) _ HB4.out.2 Try.underlying30 rfl HIA.out.2 ?_)
      | fail)
    refine (HLB.out w4 (HK02.out.trans HK4.out)).mono ?_
    rintro e w5 ⟨rfl, k5⟩
    have HK5 := Lib.hid (HK4.out.trans k5)
    have HB5 := Lib.hid (HBX.out w5 HK5.out)
    clear k5
    go_wp2_with (first
      | (refine wpList_load_row rfl 30 (.tmp 3) rfl q rfl 30 _ (0, 0) _ HB5.out.1 Try.underlying30 rfl HIA.out.1 ?_)
      | (refine wpList_load_row rfl 30 (.tmp 4) rfl (q + 1) rfl 30 _ (0, 0) _ HB5.out.2 Try.underlying30 rfl HIA.out.2 ?_)
      | fail)
    refine (HTO.out w5 (HK02.out.trans HK5.out) HLN.out.1.1 HLN.out.1.2 HLN.out.2.1 HLN.out.2.2).mono ?_
    rintro e w6 ⟨a1, b1, c1, d1, rfl, hn1⟩
    have HN1 := Lib.hid hn1
    have HK6 := Lib.hid (HK5.out.trans hn1.mp.kept)
    clear hn1
    rw [histV_A]
    obtain ⟨g7, hg7⟩ : ∃ g, g = w6.heap.size := ⟨_, rfl⟩
    have HG7 := Lib.hid hg7
    clear hg7
    go_upto_region 6 with (refine wpList_store_box rfl 30 (.tmp 7) _ rfl w6 _ (histA R (.slice a1 R.pl.length c1) (.slice b1 R.nl.length d1)) 30 rfl rfl rfl hist_info rfl (histC_one ⟨rfl, rfl⟩) ?_; intro w7 hb7 k7; have HB7 : Hid (w7.heap[g7]? = some (.cells (histA R (.slice a1 R.pl.length c1) (.slice b1 R.nl.length d1)) 30 (0, 0))) := Lib.hid (by rw [HG7.out]; exact hb7); have HK67 := Lib.hid k7; have HK7 := Lib.hid (HK6.out.trans k7); clear hb7 k7)
    rw [← HG7.out]
    have HN1b := Lib.hid (HN1.out.on HK67.out)
    have HBb := Lib.hid (HBX.out w7 HK7.out)
    go_wp2_with (first
      | (refine wpList_load_row rfl 30 (.tmp 3) rfl q rfl 30 _ (0, 0) _ HBb.out.1 Try.underlying30 rfl HIA.out.1 ?_)
      | (refine wpList_load_row rfl 30 (.tmp 4) rfl (q + 1) rfl 30 _ (0, 0) _ HBb.out.2 Try.underlying30 rfl HIA.out.2 ?_)
      | fail)
    refine (HRT.out w7 (HK02.out.trans HK7.out) HLN.out.1.1 HLN.out.1.2 HLN.out.2.1 HLN.out.2.2).mono ?_
    rintro e w8 ⟨a2, b2, c2, d2, rfl, hn2⟩
    have HN2 := Lib.hid hn2
    have HK8 := Lib.hid hn2.mp.kept
    clear hn2
    rw [histV_A]
    obtain ⟨g9, hg9⟩ : ∃ g, g = w8.heap.size := ⟨_, rfl⟩
    have HG9 := Lib.hid hg9
    clear hg9
    go_upto_region 7 with (refine wpList_store_box rfl 30 (.tmp 9) _ rfl w8 _ (histA R (.slice a2 R.pl.length c2) (.slice b2 R.nl.length d2)) 30 rfl rfl rfl hist_info rfl (histC_one ⟨rfl, rfl⟩) ?_; intro w9 hb9 k9; have HB9 : Hid (w9.heap[g9]? = some (.cells (histA R (.slice a2 R.pl.length c2) (.slice b2 R.nl.length d2)) 30 (0, 0))) := Lib.hid (by rw [HG9.out]; exact hb9); have HK89 := Lib.hid k9; have HK9 := Lib.hid (HK8.out.trans k9); clear hb9 k9)
    rw [← HG9.out]
    have HN1c := Lib.hid (HN1b.out.on HK9.out)
    have HN2b := Lib.hid (HN2.out.on HK89.out)
    have HB7c := Lib.hid (HK9.out.same HB7.out (fun x => x))
    have HK9w := Lib.hid (HK7.out.trans HK9.out)
    have HSM : Hid (Calls Try.prog 18 #[.agg (histA R (.slice a1 R.pl.length c1) (.slice b1 R.nl.length d1)), .agg (histA R (.slice a2 R.pl.length c2) (.slice b2 R.nl.length d2))] w9 fun e w' => e = .returned (.bool true) ∧ Kept (fun _ => False) w9 w') := Lib.hid (by
      have := refSame_any R R _ _ _ _ w9 ⟨HN1c.out.mp.at_, HN1c.out.mn.at_⟩ ⟨HN2b.out.mp.at_, HN2b.out.mn.at_⟩ HRL.out.1 HRL.out.2
      rw [decide_eq_true ((sameH_iff R R).2 rfl)] at this
      exact this)
    go_wp2_with (first
      | (refine wpList_load_row rfl 30 (.tmp 7) rfl g7 rfl 30 _ (0, 0) _ HB7c.out Try.underlying30 rfl hist_info ?_)
      | (refine wpList_load_row rfl 30 (.tmp 9) rfl g9 rfl 30 _ (0, 0) _ HB9.out Try.underlying30 rfl hist_info ?_)
      | fail)
    refine HSM.out.mono ?_
    rintro e w10 ⟨rfl, k10⟩
    have HK10 := Lib.hid k10
    have HKX := Lib.hid (HK9w.out.trans k10)
    clear k10
    have HBc := Lib.hid (HBX.out w10 HKX.out)
    have HBR := Lib.hid (HK10.out.same HB7c.out (fun x => x))
    have HNR := Lib.hid (HN1c.out.on HK10.out)
    go_wp2_with (first
      | (refine wpList_load_row rfl 30 (.tmp 3) rfl q rfl 30 _ (0, 0) _ HBc.out.1 Try.underlying30 rfl HIA.out.1 ?_)
      | fail)
    refine (HTA.out w10 (HK02.out.trans HKX.out) HLN.out.1.1 HLN.out.1.2).mono ?_
    rintro e w11 ⟨rfl, k11⟩
    have HK11 := Lib.hid k11
    have HKY := Lib.hid (HKX.out.trans k11)
    clear k11
    have HBd := Lib.hid (HBX.out w11 HKY.out)
    go_wp2_with (first
      | (refine wpList_load_row rfl 30 (.tmp 4) rfl (q + 1) rfl 30 _ (0, 0) _ HBd.out.2 Try.underlying30 rfl HIA.out.2 ?_)
      | fail)
    refine (HTB.out w11 (HK02.out.trans HKY.out) HLN.out.2.1 HLN.out.2.2).mono ?_
    rintro e w12 ⟨rfl, k12⟩
    have HK12 := Lib.hid (HK11.out.trans k12)
    have HKZ := Lib.hid (HKY.out.trans k12)
    clear k12
    have HBR12 := Lib.hid (HK12.out.same HBR.out (fun x => x))
    have HNR12 := Lib.hid (HNR.out.on HK12.out)
    have HTR : Hid (Calls Try.prog 29 #[.agg (histA R (.slice a1 R.pl.length c1) (.slice b1 R.nl.length d1))] w12 fun e w' => e = .returned (.tuple #[.int .u64 TR, .bool true]) ∧ Kept (fun _ => False) w12 w') := Lib.hid (by
      have := histTotal_any R _ _ w12 ⟨HNR12.out.mp.at_, HNR12.out.mn.at_⟩ HRO.out.ze HRL.out.1 HRL.out.2 HRO.out.pl HRO.out.nl
      unfold totV at this
      rw [if_pos HTL.out.1, decide_eq_true HTL.out.1, ← HTL.out.2] at this
      exact this)
    go_wp2_with (first
      | (refine wpList_load_row rfl 30 (.tmp 7) rfl g7 rfl 30 _ (0, 0) _ HBR12.out Try.underlying30 rfl hist_info ?_)
      | fail)
    refine HTR.out.mono ?_
    rintro e w13 ⟨rfl, k13⟩
    have HK13 := Lib.hid k13
    have HKU := Lib.hid (HKZ.out.trans k13)
    clear k13
    have HBR13 := Lib.hid (HK13.out.same HBR12.out (fun x => x))
    have HNR13 := Lib.hid (HNR12.out.on HK13.out)
    have HCK : Hid (Calls Try.prog 30 #[.agg (histA R (.slice a1 R.pl.length c1) (.slice b1 R.nl.length d1))] w13 fun e w' => e = .returned (.int .i64 0) ∧ Kept (fun _ => False) w13 w') := Lib.hid (by
      have := histCheck_any R _ _ w13 ⟨HNR13.out.mp.at_, HNR13.out.mn.at_⟩ HRO.out HRL.out.1 HRL.out.2
      rw [HRE.out] at this
      exact this)
    go_wp2_with (first
      | (refine wpList_load_row rfl 30 (.tmp 7) rfl g7 rfl 30 _ (0, 0) _ HBR13.out Try.underlying30 rfl hist_info ?_)
      | (refine wpList_load_rowG rfl 30 (.tmp 7) rfl g7 rfl 30 _ (0, 0) _ HBR13.out Try.underlying30 rfl hist_info ?_)
      | fail)
    refine HCK.out.mono ?_
    rintro e w14 ⟨rfl, k14⟩
    have HKV := Lib.hid (HKU.out.trans k14)
    have hbb := k14.same HBR13.out (fun x => x)
    have z3 : w14.cell? ⟨g7, 3, none⟩ = some (.slice a1 R.pl.length c1) := cell_rowZ 3 _ hbb rfl
    have z5 : w14.cell? ⟨g7, 5, none⟩ = some (.slice b1 R.nl.length d1) := cell_rowZ 5 _ hbb rfl
    clear k14 hbb
    have f1 := HFT.out.1
    have f2 := HFT.out.2
    go_wp2
    go_ret
    exact ⟨rfl, HK02.out.trans HKV.out⟩
end Go.Proofs.Ytiiibhdohlpodaa
