/- The document's Level, boxes whole (written by tools/gen_XON.py). -/
import Derived.Test.YtiiibhdohlpodaaJe7
import Derived.Test.YtiiibhdohlpodaaON
namespace Go.Proofs.Ytiiibhdohlpodaa
open Go.RowKit
attribute [local go_sem ↓] Go.wp_at_zero Go.wp_at_succ

/-- A pair's cells. -/
def pairA (X Y : HistV) (p1 n1 p2 n2 : Value) (E : Int) : Array Value := #[.int .i64 X.sc, .int .u64 (X.ze : Int), .int .i64 X.po, p1, .int .i64 X.no, n1, .int .i64 Y.sc, .int .u64 (Y.ze : Int), .int .i64 Y.po, p2, .int .i64 Y.no, n2, .int .i64 E]
theorem pairV_A (X Y : HistV) (p1 n1 p2 n2 : Value) (E : Nat) : pairV X Y p1 n1 p2 n2 E = .agg (pairA X Y p1 n1 p2 n2 (E : Int)) := rfl
theorem pairA_info (X Y : HistV) (p1 n1 p2 n2 : Value) (E : Int) : (Try.prog.info? 89).map (·.size) = some (pairA X Y p1 n1 p2 n2 E).size := by kernel_rfl
theorem pairA_one (X Y : HistV) (a b c d : Option Addr) (n1 n2 n3 n4 c1 c2 c3 c4 : Nat) (E : Int) : (pairA X Y (.slice a n1 c1) (.slice b n2 c2) (.slice c n3 c3) (.slice d n4 c4) E).all (·.oneCell') = true := by
  rw [Array.all_eq_true_iff_forall_mem]
  intro u hu
  simp only [pairA, List.mem_toArray, List.mem_cons, List.not_mem_nil, or_false] at hu
  rcases hu with rfl | rfl | rfl | rfl | rfl | rfl | rfl | rfl | rfl | rfl | rfl | rfl | rfl <;> rfl
set_option maxHeartbeats 16000000 in
set_option maxRecDepth 100000 in
theorem refLevel_any (a b : HistV) (ap an bp bn : Value) (w : World) (ha : HistIn w a ap an) (hb : HistIn w b bp bn) (la1 : a.pl.length ≤ 1000000) (la2 : a.nl.length ≤ 1000000) (lb1 : b.pl.length ≤ 1000000) (lb2 : b.nl.length ≤ 1000000) :
    Calls Try.prog 56 #[histV a ap an, histV b bp bn] w (PairOut w (levX a b) (levY a b) (levE a b)) := by
  obtain ⟨⟨ao, c, rfl⟩, a1, c1, rfl⟩ := ha.at_.sl
  obtain ⟨⟨bo, d, rfl⟩, b1, d1, rfl⟩ := hb.at_.sl
  obtain ⟨q, hq⟩ : ∃ q, q = w.heap.size := ⟨_, rfl⟩
  have oka := ha.ok
  have okb := hb.ok
  have HCA := Lib.hid fun w' (k : Kept (fun _ => False) w w') => refCheck_any a _ _ w' (ha.at_.on k) oka la1 la2
  have HCB := Lib.hid fun w' (k : Kept (fun _ => False) w w') => refCheck_any b _ _ w' (hb.at_.on k) okb lb1 lb2
  rw [histV_A] at HCA HCB
  rw [histV_A, histV_A]
  obtain ⟨CA, hCA⟩ : ∃ x, x = histA a (.slice ao a.pl.length c) (.slice a1 a.nl.length c1) := ⟨_, rfl⟩
  obtain ⟨CB, hCB⟩ : ∃ x, x = histA b (.slice bo b.pl.length d) (.slice b1 b.nl.length d1) := ⟨_, rfl⟩
  have HIA : Hid ((Try.prog.info? 30).map (·.size) = some CA.size ∧ (Try.prog.info? 30).map (·.size) = some CB.size) := Lib.hid (by rw [hCA, hCB]; exact ⟨hist_info, hist_info⟩)
  have HS0 : Hid (CA[0]? = some (.int .i64 a.sc) ∧ CB[0]? = some (.int .i64 b.sc)) := Lib.hid (by rw [hCA, hCB]; exact ⟨rfl, rfl⟩)
  rw [← hCA] at HCA
  rw [← hCB] at HCB
  rw [← hCA, ← hCB]
  obtain ⟨w2, hw2⟩ : ∃ w2, w2 = ((w.alloc (.cells CA 30)).alloc (.cells CB 30)).alloc (.cells #[.int .i64 0, .int .u64 0, .int .i64 0, .slice none 0 0, .int .i64 0, .slice none 0 0, .int .i64 0, .int .u64 0, .int .i64 0, .slice none 0 0, .int .i64 0, .slice none 0 0, .int .i64 0] 89) := ⟨_, rfl⟩
  have k2 : Kept (fun _ => False) w w2 := by rw [hw2]; exact (((Kept.refl _ _).alloc _).alloc _).alloc _
  have hb1 : w2.heap[q]? = some (.cells CA 30 (0, 0)) ∧ w2.heap[q + 1]? = some (.cells CB 30 (0, 0)) ∧ w2.heap[q + 1 + 1]? = some (.cells #[.int .i64 0, .int .u64 0, .int .i64 0, .slice none 0 0, .int .i64 0, .slice none 0 0, .int .i64 0, .int .u64 0, .int .i64 0, .slice none 0 0, .int .i64 0, .slice none 0 0, .int .i64 0] 89 (0, 0)) := by rw [hw2, hq]; exact ⟨(((Kept.refl (fun _ => False) _).alloc _).alloc _).same (heap_alloc_new w _) (fun x => x), ((Kept.refl (fun _ => False) _).alloc _).same (box_second2 w _ _) (fun x => x), heap_third w _ _ _⟩
  have HBX : Hid (∀ w', Kept (fun _ => False) w2 w' → w'.heap[q]? = some (.cells CA 30 (0, 0)) ∧ w'.heap[q + 1]? = some (.cells CB 30 (0, 0)) ∧ w'.heap[q + 1 + 1]? = some (.cells #[.int .i64 0, .int .u64 0, .int .i64 0, .slice none 0 0, .int .i64 0, .slice none 0 0, .int .i64 0, .int .u64 0, .int .i64 0, .slice none 0 0, .int .i64 0, .slice none 0 0, .int .i64 0] 89 (0, 0))) := Lib.hid (fun w' k => ⟨k.same hb1.1 (fun x => x), k.same hb1.2.1 (fun x => x), k.same hb1.2.2 (fun x => x)⟩)
  have HW2 := Lib.hid (And.intro hw2 hq)
  have HK02 := Lib.hid k2
  have HGE : Hid (w.heap.size ≤ q) := Lib.hid (by omega)
  have HBAD := Lib.hid fun w' E (hE : levE a b = E) (h0 : E ≠ 0) (k : Kept (fun _ => False) w w') => pair_bad_out hE h0 k
  obtain ⟨Ea, hEa⟩ : ∃ E, E = a.err := ⟨_, rfl⟩
  obtain ⟨Eb, hEb⟩ : ∃ E, E = b.err := ⟨_, rfl⟩
  have HLE : Hid (levE a b = if Ea ≠ 0 then Ea else Eb) := Lib.hid (by rw [hEa, hEb]; rfl)
  rw [← hEa] at HCA
  rw [← hEb] at HCB
  obtain ⟨X, hX⟩ : ∃ X, X = levX a b := ⟨_, rfl⟩
  obtain ⟨Y, hY⟩ : ∃ Y, Y = levY a b := ⟨_, rfl⟩
  have HD1 : Hid (Ea = 0 → Eb = 0 → ∀ w', Kept (fun _ => False) w w' → Calls Try.prog 57 #[.agg CA, .int .i64 (a.sc - levS a b)] w' (HistOut w' X 0)) := Lib.hid fun e1 e2 w' k => by
    obtain ⟨g1, g2, g3, g4, g5⟩ := lev_good (a := a) (b := b) (by omega) (by omega)
    have := refDown_any a (a.sc - levS a b) _ _ w' (ha.at_.on k) oka la1 la2 (by have h1 := err_light (h := a) (by omega); have h2 := err_light (h := b) (by omega); have := levS_min a b; unfold I64; omega) ha.cp ha.cn
    rw [g2, ← g4, ← hX, histV_A, ← hCA] at this
    exact this
  have HD2 : Hid (Ea = 0 → Eb = 0 → ∀ w', Kept (fun _ => False) w w' → Calls Try.prog 57 #[.agg CB, .int .i64 (b.sc - levS a b)] w' (HistOut w' Y 0)) := Lib.hid fun e1 e2 w' k => by
    obtain ⟨g1, g2, g3, g4, g5⟩ := lev_good (a := a) (b := b) (by omega) (by omega)
    have := refDown_any b (b.sc - levS a b) _ _ w' (hb.at_.on k) okb lb1 lb2 (by have h1 := err_light (h := a) (by omega); have h2 := err_light (h := b) (by omega); have := levS_min a b; unfold I64; omega) hb.cp hb.cn
    rw [g3, ← g5, ← hY, histV_A, ← hCB] at this
    exact this
  have HG : Hid (Ea = 0 → Eb = 0 → (levE a b = 0 ∧ (-10 ≤ a.sc ∧ a.sc ≤ 20) ∧ (-10 ≤ b.sc ∧ b.sc ≤ 20))) := Lib.hid (fun z1 z2 => by
    obtain ⟨g1, g2, g3, g4, g5⟩ := lev_good (a := a) (b := b) (by omega) (by omega)
    exact ⟨g1, (err_light (by omega)).1, (err_light (by omega)).1⟩)
  have HXE := Lib.hid (And.intro hX hY)
  have HSM := Lib.hid (show levS a b = if a.sc ≤ b.sc then a.sc else b.sc from rfl)
  clear hw2 hq k2 hb1 hCA hCB ha hb oka okb la1 la2 lb1 lb2 hEa hEb hX hY
  go_enter Try.func56, Try.ntmps56
  go_upto_region 1 with fail
  rw [← HW2.out.1, ← HW2.out.2]
  go_wp2_with (first
    | (refine wpList_load_row rfl 30 (.tmp 2) rfl q rfl 30 _ (0, 0) _ (HBX.out w2 (Kept.refl _ _)).1 Try.underlying30 rfl HIA.out.1 ?_)
    | fail)
  refine (HCA.out w2 HK02.out).mono ?_
  rintro e w3 ⟨rfl, k3⟩
  have HK3 := Lib.hid k3
  clear k3
  by_cases z1 : Ea = 0
  · have qz : ((Ea : Int) != 0) = false := bneF (by omega)
    go_upto_region 4 with fail
    go_wp2_with (first
      | (refine wpList_load_row rfl 30 (.tmp 3) rfl (q + 1) rfl 30 _ (0, 0) _ (HBX.out w3 HK3.out).2.1 Try.underlying30 rfl HIA.out.2 ?_)
      | fail)
    refine (HCB.out w3 (HK02.out.trans HK3.out)).mono ?_
    rintro e w4 ⟨rfl, k4⟩
    have HK4 := Lib.hid (HK3.out.trans k4)
    clear k4
    by_cases z : Eb = 0
    · have qz2 : ((Eb : Int) != 0) = false := bneF (by omega)
      obtain ⟨g0, ⟨s1, s2⟩, s3, s4⟩ := HG.out z1 z
      have z2 := z
      have HGL := Lib.hid g0
      clear g0 z
      have s0 : w4.cell? ⟨q, 0, none⟩ = some (.int .i64 a.sc) := cell_rowZ 0 _ (HBX.out w4 HK4.out).1 HS0.out.1
      have s0' : w4.cell? ⟨q + 1, 0, none⟩ = some (.int .i64 b.sc) := cell_rowZ 0 _ (HBX.out w4 HK4.out).2.1 HS0.out.2
      have hsm := HSM.out
      by_cases hle : b.sc < a.sc
      · have hs : levS a b = b.sc := by rw [hsm, if_neg (by omega)]
        have ql : decide (b.sc < a.sc) = true := decide_eq_true hle
        have hda := HD1.out z1 z2
        have hdb := HD2.out z1 z2
        rw [hs] at hda hdb
        rw [Int.sub_self] at hdb
        have wd : IntKind.i64.wrap (a.sc - b.sc) = a.sc - b.sc := IntWalk.i64_in _ ⟨by omega, by omega⟩
        obtain ⟨dd, hdd⟩ : ∃ d, d = a.sc - b.sc := ⟨_, rfl⟩
        rw [← hdd] at hda
        have hdd' := hdd.symm
        have wd' : IntKind.i64.wrap dd = dd := by rw [hdd]; exact wd
        have HDA := Lib.hid hda
        have HDB := Lib.hid hdb
        unfold HistOut at HDA HDB
        clear hda hdb hs hsm hdd z1 z2 s1 s2 s3 s4 HG wd HD1 HD2 HCA HCB
        go_upto_region 10 with fail
        go_wp2_with (first
          | (refine wpList_load_row rfl 30 (.tmp 2) rfl q rfl 30 _ (0, 0) _ (HBX.out w4 HK4.out).1 Try.underlying30 rfl HIA.out.1 ?_)
          | fail)
        refine (HDA.out w4 (HK02.out.trans HK4.out)).mono ?_
        rintro e w5 ⟨pv, nv, rfl, m1, m2, _⟩
        obtain ⟨x1, x2, x3, x4, rfl, rfl, hn1⟩ := HN.of m1 m2
        have HN1 := Lib.hid (hn1.down (HK02.out.trans HK4.out))
        have HK5 := Lib.hid (HK4.out.trans hn1.mp.kept)
        clear m1 m2 hn1
        rw [histV_A]
        obtain ⟨g8, hg8⟩ : ∃ g, g = w5.heap.size := ⟨_, rfl⟩
        have HG8 := Lib.hid hg8
        clear hg8
        go_upto_region 11 with (refine wpList_store_box rfl 30 (.tmp 8) _ rfl w5 _ (histA X (.slice x1 X.pl.length x3) (.slice x2 X.nl.length x4)) 30 rfl rfl rfl hist_info rfl (histC_one (h := X) ⟨rfl, rfl⟩) ?_; intro w6 hb6 k6; have HB6 : Hid (w6.heap[g8]? = some (.cells (histA X (.slice x1 X.pl.length x3) (.slice x2 X.nl.length x4)) 30 (0, 0))) := Lib.hid (by rw [HG8.out]; exact hb6); have HK56 := Lib.hid k6; have HK6 := Lib.hid (HK5.out.trans k6); clear hb6 k6)
        rw [← HG8.out]
        clear s0 s0'
        have s0' : w6.cell? ⟨q + 1, 0, none⟩ = some (.int .i64 b.sc) := cell_rowZ 0 _ (HBX.out w6 HK6.out).2.1 HS0.out.2
        have HN1b := Lib.hid (HN1.out.on HK56.out)
        go_wp2_with (first
          | (refine wpList_load_row rfl 30 (.tmp 3) rfl (q + 1) rfl 30 _ (0, 0) _ (HBX.out w6 HK6.out).2.1 Try.underlying30 rfl HIA.out.2 ?_)
          | fail)
        refine (HDB.out w6 (HK02.out.trans HK6.out)).mono ?_
        rintro e w7 ⟨pv, nv, rfl, m1, m2, _⟩
        obtain ⟨y1, y2, y3, y4, rfl, rfl, hn2⟩ := HN.of m1 m2
        have HN2 := Lib.hid (hn2.down (HK02.out.trans HK6.out))
        have HK67 := Lib.hid hn2.mp.kept
        have HK7 := Lib.hid (HK6.out.trans hn2.mp.kept)
        clear m1 m2 hn2
        rw [histV_A]
        obtain ⟨g10, hg10⟩ : ∃ g, g = w7.heap.size := ⟨_, rfl⟩
        have HG10 := Lib.hid hg10
        clear hg10
        go_upto_region 12 with (refine wpList_store_box rfl 30 (.tmp 10) _ rfl w7 _ (histA Y (.slice y1 Y.pl.length y3) (.slice y2 Y.nl.length y4)) 30 rfl rfl rfl hist_info rfl (histC_one (h := Y) ⟨rfl, rfl⟩) ?_; intro w8 hb8 k8; have HB8 : Hid (w8.heap[g10]? = some (.cells (histA Y (.slice y1 Y.pl.length y3) (.slice y2 Y.nl.length y4)) 30 (0, 0))) := Lib.hid (by rw [HG10.out]; exact hb8); have HK78 := Lib.hid k8; have HK8 := Lib.hid (HK7.out.trans k8); clear hb8 k8)
        rw [← HG10.out]
        have HB6b := Lib.hid ((HK67.out.trans HK78.out).same HB6.out (fun x => x))
        have HN1c := Lib.hid (HN1b.out.on (HK67.out.trans HK78.out))
        have HN2b := Lib.hid (HN2.out.on HK78.out)
        have bld : ∀ w, (Instr.build 89 #[(0, .agg (histA X (.slice x1 X.pl.length x3) (.slice x2 X.nl.length x4))), (1, .agg (histA Y (.slice y1 Y.pl.length y3) (.slice y2 Y.nl.length y4)))]).run Try.prog w = .ok (.agg (pairA X Y (.slice x1 X.pl.length x3) (.slice x2 X.nl.length x4) (.slice y1 Y.pl.length y3) (.slice y2 Y.nl.length y4) ((0 : Nat) : Int))) w := fun w => by kernel_rfl
        go_wp2_with (first
          | (refine wpList_load_row rfl 30 (.tmp 8) rfl g8 rfl 30 _ (0, 0) _ HB6b.out Try.underlying30 rfl hist_info ?_)
          | (refine wpList_load_row rfl 30 (.tmp 10) rfl g10 rfl 30 _ (0, 0) _ HB8.out Try.underlying30 rfl hist_info ?_)
          | (refine wpList_build_v rfl 89 (.tmp 50) (.tmp 51) rfl (.agg (histA X (.slice x1 X.pl.length x3) (.slice x2 X.nl.length x4))) (.agg (histA Y (.slice y1 Y.pl.length y3) (.slice y2 Y.nl.length y4))) (.agg (pairA X Y (.slice x1 X.pl.length x3) (.slice x2 X.nl.length x4) (.slice y1 Y.pl.length y3) (.slice y2 Y.nl.length y4) ((0 : Nat) : Int))) rfl rfl bld ?_)
          | (refine wpList_store_to rfl 89 (.tmp 4) _ rfl (q + 1 + 1) (pairA X Y (.slice x1 X.pl.length x3) (.slice x2 X.nl.length x4) (.slice y1 Y.pl.length y3) (.slice y2 Y.nl.length y4) ((0 : Nat) : Int)) rfl rfl 89 #[.int .i64 0, .int .u64 0, .int .i64 0, .slice none 0 0, .int .i64 0, .slice none 0 0, .int .i64 0, .int .u64 0, .int .i64 0, .slice none 0 0, .int .i64 0, .slice none 0 0, .int .i64 0] (HBX.out w8 HK8.out).2.2 (pairA_info _ _ _ _ _ _ _) rfl (pairA_one _ _ _ _ _ _ _ _ _ _ _ _ _ _ _) ?_; intro w9 hb9 k9; have HB9 := Lib.hid hb9; have HK9 := Lib.hid k9; clear hb9 k9)
          | fail)
        refine bodyPost_ret (v := pairV X Y (.slice x1 X.pl.length x3) (.slice x2 X.nl.length x4) (.slice y1 Y.pl.length y3) (.slice y2 Y.nl.length y4) 0) (results_cell_row rfl _ _ (q + 1 + 1) 89 _ (0, 0) _ rfl HB9.out Try.underlying89 rfl (pairA_info _ _ _ _ _ _ _)) rfl ?_
        have r1 := HN1c.out.set (HBX.out w8 HK8.out).2.2 (by decide) (by have := HGE.out; omega) HK9.out
        have r2 := HN2b.out.set (HBX.out w8 HK8.out).2.2 (by decide) (by have := HGE.out; omega) HK9.out
        rw [← HXE.out.1, ← HXE.out.2, HGL.out]
        exact ⟨_, _, _, _, rfl, r1.mp, r1.mn, r2.mp, r2.mn⟩
      · have hs : levS a b = a.sc := by rw [hsm, if_pos (by omega)]
        have ql : decide (b.sc < a.sc) = false := decide_eq_false hle
        have hda := HD1.out z1 z2
        have hdb := HD2.out z1 z2
        rw [hs] at hda hdb
        rw [Int.sub_self] at hda
        have wd : IntKind.i64.wrap (b.sc - a.sc) = b.sc - a.sc := IntWalk.i64_in _ ⟨by omega, by omega⟩
        obtain ⟨dd, hdd⟩ : ∃ d, d = b.sc - a.sc := ⟨_, rfl⟩
        rw [← hdd] at hdb
        have hdd' := hdd.symm
        have wd' : IntKind.i64.wrap dd = dd := by rw [hdd]; exact wd
        have HDA := Lib.hid hda
        have HDB := Lib.hid hdb
        unfold HistOut at HDA HDB
        clear hda hdb hs hsm hdd z1 z2 s1 s2 s3 s4 HG wd HD1 HD2 HCA HCB
        go_upto_region 10 with fail
        go_wp2_with (first
          | (refine wpList_load_row rfl 30 (.tmp 2) rfl q rfl 30 _ (0, 0) _ (HBX.out w4 HK4.out).1 Try.underlying30 rfl HIA.out.1 ?_)
          | fail)
        refine (HDA.out w4 (HK02.out.trans HK4.out)).mono ?_
        rintro e w5 ⟨pv, nv, rfl, m1, m2, _⟩
        obtain ⟨x1, x2, x3, x4, rfl, rfl, hn1⟩ := HN.of m1 m2
        have HN1 := Lib.hid (hn1.down (HK02.out.trans HK4.out))
        have HK5 := Lib.hid (HK4.out.trans hn1.mp.kept)
        clear m1 m2 hn1
        rw [histV_A]
        obtain ⟨g8, hg8⟩ : ∃ g, g = w5.heap.size := ⟨_, rfl⟩
        have HG8 := Lib.hid hg8
        clear hg8
        go_upto_region 11 with (refine wpList_store_box rfl 30 (.tmp 8) _ rfl w5 _ (histA X (.slice x1 X.pl.length x3) (.slice x2 X.nl.length x4)) 30 rfl rfl rfl hist_info rfl (histC_one (h := X) ⟨rfl, rfl⟩) ?_; intro w6 hb6 k6; have HB6 : Hid (w6.heap[g8]? = some (.cells (histA X (.slice x1 X.pl.length x3) (.slice x2 X.nl.length x4)) 30 (0, 0))) := Lib.hid (by rw [HG8.out]; exact hb6); have HK56 := Lib.hid k6; have HK6 := Lib.hid (HK5.out.trans k6); clear hb6 k6)
        rw [← HG8.out]
        clear s0 s0'
        have s0' : w6.cell? ⟨q + 1, 0, none⟩ = some (.int .i64 b.sc) := cell_rowZ 0 _ (HBX.out w6 HK6.out).2.1 HS0.out.2
        have HN1b := Lib.hid (HN1.out.on HK56.out)
        go_wp2_with (first
          | (refine wpList_load_row rfl 30 (.tmp 3) rfl (q + 1) rfl 30 _ (0, 0) _ (HBX.out w6 HK6.out).2.1 Try.underlying30 rfl HIA.out.2 ?_)
          | fail)
        refine (HDB.out w6 (HK02.out.trans HK6.out)).mono ?_
        rintro e w7 ⟨pv, nv, rfl, m1, m2, _⟩
        obtain ⟨y1, y2, y3, y4, rfl, rfl, hn2⟩ := HN.of m1 m2
        have HN2 := Lib.hid (hn2.down (HK02.out.trans HK6.out))
        have HK67 := Lib.hid hn2.mp.kept
        have HK7 := Lib.hid (HK6.out.trans hn2.mp.kept)
        clear m1 m2 hn2
        rw [histV_A]
        obtain ⟨g10, hg10⟩ : ∃ g, g = w7.heap.size := ⟨_, rfl⟩
        have HG10 := Lib.hid hg10
        clear hg10
        go_upto_region 12 with (refine wpList_store_box rfl 30 (.tmp 10) _ rfl w7 _ (histA Y (.slice y1 Y.pl.length y3) (.slice y2 Y.nl.length y4)) 30 rfl rfl rfl hist_info rfl (histC_one (h := Y) ⟨rfl, rfl⟩) ?_; intro w8 hb8 k8; have HB8 : Hid (w8.heap[g10]? = some (.cells (histA Y (.slice y1 Y.pl.length y3) (.slice y2 Y.nl.length y4)) 30 (0, 0))) := Lib.hid (by rw [HG10.out]; exact hb8); have HK78 := Lib.hid k8; have HK8 := Lib.hid (HK7.out.trans k8); clear hb8 k8)
        rw [← HG10.out]
        have HB6b := Lib.hid ((HK67.out.trans HK78.out).same HB6.out (fun x => x))
        have HN1c := Lib.hid (HN1b.out.on (HK67.out.trans HK78.out))
        have HN2b := Lib.hid (HN2.out.on HK78.out)
        have bld : ∀ w, (Instr.build 89 #[(0, .agg (histA X (.slice x1 X.pl.length x3) (.slice x2 X.nl.length x4))), (1, .agg (histA Y (.slice y1 Y.pl.length y3) (.slice y2 Y.nl.length y4)))]).run Try.prog w = .ok (.agg (pairA X Y (.slice x1 X.pl.length x3) (.slice x2 X.nl.length x4) (.slice y1 Y.pl.length y3) (.slice y2 Y.nl.length y4) ((0 : Nat) : Int))) w := fun w => by kernel_rfl
        go_wp2_with (first
          | (refine wpList_load_row rfl 30 (.tmp 8) rfl g8 rfl 30 _ (0, 0) _ HB6b.out Try.underlying30 rfl hist_info ?_)
          | (refine wpList_load_row rfl 30 (.tmp 10) rfl g10 rfl 30 _ (0, 0) _ HB8.out Try.underlying30 rfl hist_info ?_)
          | (refine wpList_build_v rfl 89 (.tmp 50) (.tmp 51) rfl (.agg (histA X (.slice x1 X.pl.length x3) (.slice x2 X.nl.length x4))) (.agg (histA Y (.slice y1 Y.pl.length y3) (.slice y2 Y.nl.length y4))) (.agg (pairA X Y (.slice x1 X.pl.length x3) (.slice x2 X.nl.length x4) (.slice y1 Y.pl.length y3) (.slice y2 Y.nl.length y4) ((0 : Nat) : Int))) rfl rfl bld ?_)
          | (refine wpList_store_to rfl 89 (.tmp 4) _ rfl (q + 1 + 1) (pairA X Y (.slice x1 X.pl.length x3) (.slice x2 X.nl.length x4) (.slice y1 Y.pl.length y3) (.slice y2 Y.nl.length y4) ((0 : Nat) : Int)) rfl rfl 89 #[.int .i64 0, .int .u64 0, .int .i64 0, .slice none 0 0, .int .i64 0, .slice none 0 0, .int .i64 0, .int .u64 0, .int .i64 0, .slice none 0 0, .int .i64 0, .slice none 0 0, .int .i64 0] (HBX.out w8 HK8.out).2.2 (pairA_info _ _ _ _ _ _ _) rfl (pairA_one _ _ _ _ _ _ _ _ _ _ _ _ _ _ _) ?_; intro w9 hb9 k9; have HB9 := Lib.hid hb9; have HK9 := Lib.hid k9; clear hb9 k9)
          | fail)
        refine bodyPost_ret (v := pairV X Y (.slice x1 X.pl.length x3) (.slice x2 X.nl.length x4) (.slice y1 Y.pl.length y3) (.slice y2 Y.nl.length y4) 0) (results_cell_row rfl _ _ (q + 1 + 1) 89 _ (0, 0) _ rfl HB9.out Try.underlying89 rfl (pairA_info _ _ _ _ _ _ _)) rfl ?_
        have r1 := HN1c.out.set (HBX.out w8 HK8.out).2.2 (by decide) (by have := HGE.out; omega) HK9.out
        have r2 := HN2b.out.set (HBX.out w8 HK8.out).2.2 (by decide) (by have := HGE.out; omega) HK9.out
        rw [← HXE.out.1, ← HXE.out.2, HGL.out]
        exact ⟨_, _, _, _, rfl, r1.mp, r1.mn, r2.mp, r2.mn⟩
    · have qz2 : ((Eb : Int) != 0) = true := bneT (by omega)
      have Z1 := Lib.hid z1
      have Z := Lib.hid z
      clear z z1
      go_upto_region 6 with fail
      go_wp2_with (first
        | (refine wpList_store_to rfl 89 (.tmp 4) _ rfl (q + 1 + 1) (pairA zeroH zeroH (.slice none 0 0) (.slice none 0 0) (.slice none 0 0) (.slice none 0 0) (Eb : Int)) rfl rfl 89 #[.int .i64 0, .int .u64 0, .int .i64 0, .slice none 0 0, .int .i64 0, .slice none 0 0, .int .i64 0, .int .u64 0, .int .i64 0, .slice none 0 0, .int .i64 0, .slice none 0 0, .int .i64 0] (HBX.out w4 HK4.out).2.2 (pairA_info _ _ _ _ _ _ _) rfl (pairA_one _ _ none none none none 0 0 0 0 0 0 0 0 _) ?_; intro w9 hb9 k9; have HB9 := Lib.hid hb9; have HK9 := Lib.hid k9; clear hb9 k9)
        | fail)
      refine bodyPost_ret (v := pairV zeroH zeroH (.slice none 0 0) (.slice none 0 0) (.slice none 0 0) (.slice none 0 0) Eb) (results_cell_row rfl _ _ (q + 1 + 1) 89 _ (0, 0) _ rfl HB9.out Try.underlying89 rfl (pairA_info _ _ _ _ _ _ _)) rfl ?_
      exact HBAD.out _ Eb (by rw [HLE.out, if_neg (by rw [Z1.out]; exact fun h => h rfl)]) Z.out ((HK02.out.trans HK4.out).newer HK9.out (fun i e => by have := HGE.out; omega))
  · have z := z1
    have qz : ((Ea : Int) != 0) = true := bneT (by omega)
    have Z := Lib.hid z
    clear z
    go_upto_region 3 with fail
    go_wp2_with (first
      | (refine wpList_store_to rfl 89 (.tmp 4) _ rfl (q + 1 + 1) (pairA zeroH zeroH (.slice none 0 0) (.slice none 0 0) (.slice none 0 0) (.slice none 0 0) (Ea : Int)) rfl rfl 89 #[.int .i64 0, .int .u64 0, .int .i64 0, .slice none 0 0, .int .i64 0, .slice none 0 0, .int .i64 0, .int .u64 0, .int .i64 0, .slice none 0 0, .int .i64 0, .slice none 0 0, .int .i64 0] (HBX.out w3 HK3.out).2.2 (pairA_info _ _ _ _ _ _ _) rfl (pairA_one _ _ none none none none 0 0 0 0 0 0 0 0 _) ?_; intro w9 hb9 k9; have HB9 := Lib.hid hb9; have HK9 := Lib.hid k9; clear hb9 k9)
      | fail)
    refine bodyPost_ret (v := pairV zeroH zeroH (.slice none 0 0) (.slice none 0 0) (.slice none 0 0) (.slice none 0 0) Ea) (results_cell_row rfl _ _ (q + 1 + 1) 89 _ (0, 0) _ rfl HB9.out Try.underlying89 rfl (pairA_info _ _ _ _ _ _ _)) rfl ?_
    exact HBAD.out _ Ea (by rw [HLE.out, if_pos Z.out]) Z.out ((HK02.out.trans HK3.out).newer HK9.out (fun i e => by have := HGE.out; omega))
end Go.Proofs.Ytiiibhdohlpodaa
