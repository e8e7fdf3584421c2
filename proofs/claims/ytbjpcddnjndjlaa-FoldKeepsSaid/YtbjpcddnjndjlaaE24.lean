/- Layer 9: how long a sum is; hist.Clone; fold.Sum of one; counts that may be changed, a row of five histograms. -/
import Derived.Test.YtbjpcddnjndjlaaE15
namespace Go.Proofs.Ytbjpcddnjndjlaa
open Go.RowKit
attribute [local go_sem ↓] Go.wp_at_zero Go.wp_at_succ

theorem mgR_len (o1 : Int) (l1 : List Nat) (o2 : Int) (l2 : List Nat) : (mgR o1 l1 o2 l2).length ≤ 160 := by
  unfold mgR
  split
  · unfold mgL; rw [rowF_length]; assumption
  · simp
theorem mgH_len {a b : HistV} (_ : a.ok) (_ : b.ok) : (mgH a b).pl.length ≤ 300 ∧ (mgH a b).nl.length ≤ 300 := by
  unfold mgH
  split
  · have h1 := mgR_len (levX a b).po (levX a b).pl (levY a b).po (levY a b).pl
    have h2 := mgR_len (levX a b).no (levX a b).nl (levY a b).no (levY a b).nl
    unfold mgH2
    exact ⟨by simp only; omega, by simp only; omega⟩
  · unfold zeroH; simp
theorem SubRes.len {o1 : Int} {l1 : List Nat} {o2 : Int} {l2 : List Nat} {k : Bool} {o : Int} {l : List Nat} (h : SubRes o1 l1 o2 l2 k o l) : l.length ≤ l1.length := by
  rcases h with ⟨_, _, t⟩ | ⟨_, _, _, rfl⟩
  · have := t.len; unfold lsL at this; rwa [rowF_length] at this
  · simp
theorem subH_len {a b R : HistV} {E : Nat} (h : SubH a b R E) (oka : a.ok) (okb : b.ok) : R.pl.length ≤ 300 ∧ R.nl.length ≤ 300 := by
  rcases h with ⟨_, _, rfl⟩ | ⟨h0, k1, o1, l1, k2, o2, l2, h1, h2, ⟨_, _, _, _, rfl⟩ | ⟨_, _, rfl⟩⟩
  · unfold zeroH; simp
  · obtain ⟨_, _, ex, _⟩ := lev_right h0 oka okb
    obtain ⟨_, hx1, hx2, _⟩ := err_light ex
    have := (sideE_zero hx1).1
    have := (sideE_zero hx2).1
    have := h1.len
    have := h2.len
    exact ⟨by simp only; omega, by simp only; omega⟩
  · unfold zeroH; simp


theorem six_set3 {w : World} {g : Nat} {a b c d e f x : Value} {T : TypeId} (h : w.heap[g]? = some (.cells #[a, b, c, d, e, f] T (0, 0))) : (w.setCell ⟨g, 3, none⟩ x).heap[g]? = some (.cells #[a, b, c, x, e, f] T (0, 0)) := by
  have h1 := heap_setCell_same _ _ 3 _ _ x h
  simpa using h1
theorem six_set5 {w : World} {g : Nat} {a b c d e f x : Value} {T : TypeId} (h : w.heap[g]? = some (.cells #[a, b, c, d, e, f] T (0, 0))) : (w.setCell ⟨g, 5, none⟩ x).heap[g]? = some (.cells #[a, b, c, d, e, x] T (0, 0)) := by
  have h1 := heap_setCell_same _ _ 5 _ _ x h
  simpa using h1
theorem cell_other9 {w : World} {g k : Nat} {o : Nat} {x : Value} (h : k ≠ g) : (w.setCell ⟨g, o, none⟩ x).heap[k]? = w.heap[k]? := Below.heap_setCell _ _ _ _ (fun e => h e)
theorem mine_box {W w : World} {v : Value} {xs : List Value} {k : Nat} {cs : Array Value} (h : Mine W w 22 v xs) (hb : w.heap[k]? = some (.cells cs 27 (0, 0))) : v.ownBlock ≠ some k := own_box h.own hb (by decide)

set_option maxHeartbeats 2000000 in
theorem hclone_any (h : HistV) (pv nv : Value) (w : World) (ha : HistAt w h pv nv) (hp : h.pl.length ≤ 1000000) (hn : h.nl.length ≤ 1000000) :
    Calls Try.prog 35 #[histV h pv nv] w fun e w' => ∃ p n, e = .returned (histV h p n) ∧ Mine w w' 22 p (uvals h.pl) ∧ Mine w w' 22 n (uvals h.nl) := by
  obtain ⟨⟨ao, c, rfl⟩, bo, d, rfl⟩ := ha.sl
  obtain ⟨sc, ze, po, pl, no, nl⟩ := h
  unfold histV
  simp only at hp hn ha ⊢
  obtain ⟨w0, hw0⟩ : ∃ w0, w0 = (w.alloc (.cells #[.int .i64 sc, .int .u64 (ze : Int), .int .i64 po, .slice ao pl.length c, .int .i64 no, .slice bo nl.length d] 27)).alloc (.cells #[.int .i64 0, .int .u64 0, .int .i64 0, .slice none 0 0, .int .i64 0, .slice none 0 0] 27) := ⟨_, rfl⟩
  have K0 : Kept (fun _ => False) w w0 := by rw [hw0]; exact ((Kept.refl _ _).alloc _).alloc _
  have h1 : w0.heap[w.heap.size]? = some (.cells #[.int .i64 sc, .int .u64 (ze : Int), .int .i64 po, .slice ao pl.length c, .int .i64 no, .slice bo nl.length d] 27 (0, 0)) := by
    rw [hw0]; exact ((Kept.refl (fun _ => False) _).alloc _).same (heap_alloc_new w _) (fun x => x)
  have h2 : w0.heap[w.heap.size + 1]? = some (.cells #[.int .i64 0, .int .u64 0, .int .i64 0, .slice none 0 0, .int .i64 0, .slice none 0 0] 27 (0, 0)) := by
    rw [hw0]
    have := heap_alloc_new (w.alloc (.cells #[.int .i64 sc, .int .u64 (ze : Int), .int .i64 po, .slice ao pl.length c, .int .i64 no, .slice bo nl.length d] 27)) (.cells #[.int .i64 0, .int .u64 0, .int .i64 0, .slice none 0 0, .int .i64 0, .slice none 0 0] 27)
    simpa using this
  have HA := Lib.hid ha
  have HK0 := Lib.hid K0
  have H1 := Lib.hid h1
  have H2 := Lib.hid h2
  have HW0 := Lib.hid hw0
  have HL := Lib.hid (And.intro hp hn)
  obtain ⟨q, hq⟩ : ∃ q, q = w.heap.size := ⟨_, rfl⟩
  have HQ := Lib.hid hq
  rw [← hq] at H1 H2
  clear ha K0 h1 h2 hw0 hp hn hq
  go_enter Try.func35, Try.ntmps35
  go_upto_region 1 with fail
  rw [← HW0.out, ← HQ.out]
  obtain ⟨x0, x1, x2, x3, x4, x5⟩ := HistBox.c (h := ⟨sc, ze, po, pl, no, nl⟩) (show HistBox w0 q ⟨sc, ze, po, pl, no, nl⟩ _ _ from H1.out)
  go_wp2_with fail
  refine (sclone_any (.slice ao pl.length c) (uvals pl) w0 (HA.out.on HK0.out).p (uvals_one _) (by rw [uvals_length]; have := HL.out.1; omega)).mono ?_
  rintro e w1 ⟨v1, rfl, hm1⟩
  obtain ⟨a1, c1, rfl⟩ := hm1.slice
  rw [uvals_length] at hm1 ⊢
  have HM1 := Lib.hid hm1
  have H1a := Lib.hid (hm1.kept.same H1.out (fun x => x))
  have H2a := Lib.hid (hm1.kept.same H2.out (fun x => x))
  have y := HistBox.f (h := ⟨sc, ze, po, pl, no, nl⟩) (show HistBox w1 q ⟨sc, ze, po, pl, no, nl⟩ _ _ from H1a.out)
  obtain ⟨z0, z1, z2, z3, z4, z5⟩ := HistBox.c (h := ⟨sc, ze, po, pl, no, nl⟩) (show HistBox w1 q ⟨sc, ze, po, pl, no, nl⟩ _ _ from H1a.out)
  clear hm1 x0 x1 x2 x3 x4 x5
  go_upto_region 2 with fail
  have hks := (Kept.refl (fun k => k = q) w1).setCell (p := ⟨q, 3, none⟩) (fun _ => rfl) (.slice a1 pl.length c1)
  have H1b := Lib.hid (six_set3 (x := .slice a1 pl.length c1) H1a.out)
  have H2b := Lib.hid ((cell_other9 (w := w1) (g := q) (k := q + 1) (o := 3) (x := .slice a1 pl.length c1) (by omega)).trans H2a.out)
  have HKs := Lib.hid ((HK0.out.trans HM1.out.kept).setCell (p := ⟨q, 3, none⟩) (fun hlt => by simp only at hlt; have := HQ.out; omega) (.slice a1 pl.length c1))
  have HM1b := Lib.hid ((HM1.out.down HK0.out).keptS hks (fun k e x => mine_box HM1.out H1a.out (by rw [e, x])) (fun k e => by have := HQ.out; omega))
  obtain ⟨ws, hws⟩ : ∃ ws, ws = w1.setCell ⟨q, 3, none⟩ (.slice a1 pl.length c1) := ⟨_, rfl⟩
  rw [← hws] at H1b H2b HKs HM1b ⊢
  clear hws hks y z0 z1 z2 z3 z4 z5
  obtain ⟨x0, x1, x2, x3, x4, x5⟩ := HistBox.c (h := ⟨sc, ze, po, pl, no, nl⟩) (show HistBox ws q ⟨sc, ze, po, pl, no, nl⟩ _ _ from H1b.out)
  go_wp2_with fail
  refine (sclone_any (.slice bo nl.length d) (uvals nl) ws (HA.out.on HKs.out).n (uvals_one _) (by rw [uvals_length]; have := HL.out.2; omega)).mono ?_
  rintro e w2 ⟨v2, rfl, hm2⟩
  obtain ⟨a2, c2, rfl⟩ := hm2.slice
  rw [uvals_length] at hm2 ⊢
  have HM2 := Lib.hid hm2
  have HM1c := Lib.hid (HM1b.out.on hm2.kept)
  have H1c := Lib.hid (hm2.kept.same H1b.out (fun x => x))
  have H2c := Lib.hid (hm2.kept.same H2b.out (fun x => x))
  have y := HistBox.f (h := ⟨sc, ze, po, pl, no, nl⟩) (show HistBox w2 q ⟨sc, ze, po, pl, no, nl⟩ _ _ from H1c.out)
  obtain ⟨z0, z1, z2, z3, z4, z5⟩ := HistBox.c (h := ⟨sc, ze, po, pl, no, nl⟩) (show HistBox w2 q ⟨sc, ze, po, pl, no, nl⟩ _ _ from H1c.out)
  clear hm2 x0 x1 x2 x3 x4 x5
  go_upto_region 3 with fail
  have hks := (Kept.refl (fun k => k = q) w2).setCell (p := ⟨q, 5, none⟩) (fun _ => rfl) (.slice a2 nl.length c2)
  have H1d := Lib.hid (six_set5 (x := .slice a2 nl.length c2) H1c.out)
  have H2d := Lib.hid ((cell_other9 (w := w2) (g := q) (k := q + 1) (o := 5) (x := .slice a2 nl.length c2) (by omega)).trans H2c.out)
  have HM1d := Lib.hid (HM1c.out.keptS hks (fun k e x => mine_box HM1c.out H1c.out (by rw [e, x])) (fun k e => by have := HQ.out; omega))
  have HM2d := Lib.hid ((HM2.out.down HKs.out).keptS hks (fun k e x => mine_box HM2.out H1c.out (by rw [e, x])) (fun k e => by have := HQ.out; omega))
  obtain ⟨wt, hwt⟩ : ∃ ws, ws = w2.setCell ⟨q, 5, none⟩ (.slice a2 nl.length c2) := ⟨_, rfl⟩
  rw [← hwt] at H1d H2d HM1d HM2d ⊢
  clear hwt hks y z0 z1 z2 z3 z4 z5
  obtain ⟨x0, x1, x2, x3, x4, x5⟩ := HistBox.c (h := ⟨sc, ze, po, pl, no, nl⟩) (show HistBox wt q ⟨sc, ze, po, pl, no, nl⟩ _ _ from H1d.out)
  have hz := show HistBox wt (q + 1) zeroH (.slice none 0 0) (.slice none 0 0) from H2d.out
  obtain ⟨z0, z1, z2, z3, z4, z5⟩ := hz.c
  have y := hz.f
  have hset := Lib.hid (hz.set ⟨sc, ze, po, pl, no, nl⟩ (.slice a1 pl.length c1) (.slice a2 nl.length c2))
  have hk6 := Lib.hid (set6_kept wt (q + 1) (.int .i64 sc) (.int .u64 (ze : Int)) (.int .i64 po) (.slice a1 pl.length c1) (.int .i64 no) (.slice a2 nl.length c2))
  clear hz
  go_wp2
  refine bodyPost_ret (v := .agg #[.int .i64 sc, .int .u64 (ze : Int), .int .i64 po, .slice a1 pl.length c1, .int .i64 no, .slice a2 nl.length c2]) ?_ rfl ?_
  · exact results_cell_row Try.results35 _ _ (q + 1) 27 _ (0, 0) _ (by rw [HQ.out]; rfl) hset.out Try.underlying27 rfl hist_info
  · exact ⟨_, _, rfl, HM1d.out.keptS hk6.out (fun k e x => mine_box HM1d.out H2d.out (by rw [e, x])) (fun k e => by have := HQ.out; omega), HM2d.out.keptS hk6.out (fun k e x => mine_box HM2d.out H2d.out (by rw [e, x])) (fun k e => by have := HQ.out; omega)⟩

/-- The empty one of the greatest scale. -/
def e20 : HistV := ⟨20, 0, 0, [], 0, []⟩
theorem e20_ok : e20.ok := ⟨by decide, by decide, by decide, by decide, by decide, by decide⟩
/-- The cells of a histogram in a row. -/
structure HistCells (w : World) (g o : Nat) (h : HistV) (pv nv : Value) : Prop where
  c0 : w.cell? ⟨g, o, none⟩ = some (.int .i64 h.sc)
  c1 : w.cell? ⟨g, o + 1, none⟩ = some (.int .u64 (h.ze : Int))
  c2 : w.cell? ⟨g, o + 2, none⟩ = some (.int .i64 h.po)
  c3 : w.cell? ⟨g, o + 3, none⟩ = some pv
  c4 : w.cell? ⟨g, o + 4, none⟩ = some (.int .i64 h.no)
  c5 : w.cell? ⟨g, o + 5, none⟩ = some nv
theorem HistCells.on {w w' : World} {g o : Nat} {h : HistV} {pv nv : Value} (a : HistCells w g o h pv nv) (k : Kept (fun _ => False) w w') : HistCells w' g o h pv nv := ⟨k.cell a.c0 (fun x => x), k.cell a.c1 (fun x => x), k.cell a.c2 (fun x => x), k.cell a.c3 (fun x => x), k.cell a.c4 (fun x => x), k.cell a.c5 (fun x => x)⟩

set_option maxHeartbeats 4000000 in
set_option maxRecDepth 100000 in
theorem hsum1_any (h : HistV) (pv nv : Value) (g o : Nat) (w : World) (hi : HistIn w h pv nv) (hc : HistCells w g o h pv nv) (hp : h.pl.length ≤ 300) (hn : h.nl.length ≤ 300) :
    Calls Try.prog 36 #[.slice (some ⟨g, o, none⟩) 1 1] w fun e w' => ∃ R E, R.pl.length ≤ 300 ∧ R.nl.length ≤ 300 ∧ HistNew w R E e w' := by
  have hlen := mgH_len (a := e20) (b := h) e20_ok hi.ok
  obtain ⟨⟨pa, pc, rfl⟩, na, nc, rfl⟩ := hi.at_.sl
  obtain ⟨pn, hpn⟩ : ∃ n, n = h.pl.length := ⟨_, rfl⟩
  obtain ⟨nn, hnn⟩ : ∃ n, n = h.nl.length := ⟨_, rfl⟩
  rw [← hpn, ← hnn] at hi hc
  obtain ⟨pv, hpv⟩ : ∃ v, v = Value.slice pa pn pc := ⟨_, rfl⟩
  obtain ⟨nv, hnv⟩ : ∃ v, v = Value.slice na nn nc := ⟨_, rfl⟩
  rw [← hpv, ← hnv] at hi hc
  have HIN := Lib.hid fun w' (k : Kept (fun _ => False) w w') => (HistIn.mk (hi.at_.on k) hi.ok hi.cp hi.cn : HistIn w' h pv nv)
  have HME := Lib.hid fun w' (k : Kept (fun _ => False) w w') => foldMerge_any e20 h (.slice none 0 0) (.slice none 0 0) pv nv w' ⟨⟨⟨none, 0, rfl, fun _ => rfl, fun a e => (by cases e)⟩, ⟨none, 0, rfl, fun _ => rfl, fun a e => (by cases e)⟩⟩, e20_ok, fun a n c e => (by injection e with e1 e2 e3; omega), fun a n c e => (by injection e with e1 e2 e3; omega)⟩ (HIN.out w' k) (by simp [e20]) (by simp [e20]) (by omega) (by omega)
  obtain ⟨R, hR⟩ : ∃ R, R = mgH e20 h := ⟨_, rfl⟩
  obtain ⟨E, hE⟩ : ∃ E, E = mgE e20 h := ⟨_, rfl⟩
  have HZ0 := Lib.hid (show E ≠ 0 → R = zeroH from fun e => by rw [hR]; unfold mgH; rw [if_neg (by rw [← hE]; exact e)])
  rw [← hR, ← hE] at HME
  rw [← hR] at hlen
  refine Calls.mono (R := HistNew w R E) ?_ (fun e w' hh => ⟨R, E, hlen.1, hlen.2, hh⟩)
  clear hR hE hlen hi hp hn hpn hnn
  subst hpv hnv
  have HC := Lib.hid hc
  unfold e20 histV at HME
  simp only at HME
  obtain ⟨w0, hw0⟩ : ∃ w0, w0 = (w.alloc (.cells #[.int .i64 0, .int .u64 0, .int .i64 0, .slice none 0 0, .int .i64 0, .slice none 0 0] 27)).alloc (.cells #[.int .i64 20, .int .u64 0, .int .i64 0, .slice none 0 0, .int .i64 0, .slice none 0 0] 27) := ⟨_, rfl⟩
  have k0 : Kept (fun _ => False) w w0 := by rw [hw0]; exact ((Kept.refl _ _).alloc _).alloc _
  have b1 : HistBox w0 w.heap.size zeroH (.slice none 0 0) (.slice none 0 0) := by
    rw [hw0]; exact (hist_boxed w zeroH (.slice none 0 0) (.slice none 0 0)).same ((Kept.refl (fun _ => False) _).alloc _) (fun x => x)
  have b2 : HistBox w0 (w.heap.size + 1) e20 (.slice none 0 0) (.slice none 0 0) := by
    rw [hw0]
    have := hist_boxed (w.alloc (.cells #[.int .i64 0, .int .u64 0, .int .i64 0, .slice none 0 0, .int .i64 0, .slice none 0 0] 27)) e20 (.slice none 0 0) (.slice none 0 0)
    rw [show (w.alloc (.cells #[.int .i64 0, .int .u64 0, .int .i64 0, .slice none 0 0, .int .i64 0, .slice none 0 0] 27)).heap.size = w.heap.size + 1 by simp] at this
    exact this
  obtain ⟨q, hq⟩ : ∃ q, q = w.heap.size := ⟨_, rfl⟩
  rw [← hq] at b1 b2
  have HQ := Lib.hid hq
  have HW0 := Lib.hid hw0
  have HK0 := Lib.hid k0
  have HB1 := Lib.hid b1
  have HB2 := Lib.hid b2
  clear hq hw0 k0 b1 b2 hc
  go_enter Try.func36, Try.ntmps36
  go_upto_region 2 with fail
  rw [← HW0.out, ← HQ.out]
  go_wp2
  go_loopg [12] 1 (fun x s12 wr => (x = 1 ∧ s12 = .int .i64 0 ∧ w0 = wr) ∨ (x = 0 ∧ s12 = .int .i64 1 ∧ E = 0 ∧ ∃ a n, HistBox wr (q + 1) R a n ∧ HistBox wr q zeroH (.slice none 0 0) (.slice none 0 0) ∧ Mine w wr 22 a (uvals R.pl) ∧ Mine w wr 22 n (uvals R.nl)))
  case atStart => exact .inl ⟨rfl, rfl, rfl⟩
  case round =>
    rcases hrel with ⟨rfl, rfl, rfl⟩ | ⟨rfl, rfl, hE0, a, n, hb2, hb1, m1, m2⟩
    · obtain ⟨c0, c1, c2, c3, c4, c5⟩ := HC.out.on HK0.out
      have w3f := heap_alloc_new w0 (.cells #[.int .i64 h.sc, .int .u64 (h.ze : Int), .int .i64 h.po, .slice pa pn pc, .int .i64 h.no, .slice na nn nc] 27)
      have K3 := Lib.hid (HK0.out.alloc (.cells #[.int .i64 h.sc, .int .u64 (h.ze : Int), .int .i64 h.po, .slice pa pn pc, .int .i64 h.no, .slice na nn nc] 27))
      have HB13 := Lib.hid (HB1.out.same ((Kept.refl (fun _ => False) w0).alloc (.cells #[.int .i64 h.sc, .int .u64 (h.ze : Int), .int .i64 h.po, .slice pa pn pc, .int .i64 h.no, .slice na nn nc] 27)) (fun x => x))
      have HB23 := Lib.hid (HB2.out.same ((Kept.refl (fun _ => False) w0).alloc (.cells #[.int .i64 h.sc, .int .u64 (h.ze : Int), .int .i64 h.po, .slice pa pn pc, .int .i64 h.no, .slice na nn nc] 27)) (fun x => x))
      have HBH := Lib.hid (show HistBox (w0.alloc (.cells #[.int .i64 h.sc, .int .u64 (h.ze : Int), .int .i64 h.po, .slice pa pn pc, .int .i64 h.no, .slice na nn nc] 27)) w0.heap.size h (.slice pa pn pc) (.slice na nn nc) from w3f)
      obtain ⟨w3, hw3⟩ : ∃ w', w' = w0.alloc (.cells #[.int .i64 h.sc, .int .u64 (h.ze : Int), .int .i64 h.po, .slice pa pn pc, .int .i64 h.no, .slice na nn nc] 27) := ⟨_, rfl⟩
      obtain ⟨q3, hq3⟩ : ∃ x, x = w0.heap.size := ⟨_, rfl⟩
      rw [← hw3] at K3 HB13 HB23 HBH
      rw [← hq3] at HBH
      have HW3 := Lib.hid hw3
      have HQ3 := Lib.hid hq3
      clear hw3 hq3 w3f
      obtain ⟨sc, ze, po, pl, no, nl⟩ := h
      simp only at c0 c1 c2 c3 c4 c5 HME HW3
      go_upto_region 5 with fail
      rw [← HW3.out, ← HQ3.out]
      clear c0 c1 c2 c3 c4 c5
      obtain ⟨x0, x1, x2, x3, x4, x5⟩ := HB23.out.c
      obtain ⟨y0, y1, y2, y3, y4, y5⟩ := HBH.out.c
      unfold e20 at x0 x1 x2 x4
      simp only at x0 x1 x2 x4
      go_wp2_with fail
      refine (HME.out _ K3.out).mono ?_
      rintro e w4 ⟨pr, nr, rfl, m1, m2⟩
      obtain ⟨ra, rc, erp⟩ := m1.slice
      obtain ⟨rb, rd, ern⟩ := m2.slice
      rw [uvals_length] at erp ern
      obtain ⟨rn, hrn⟩ : ∃ n, n = R.pl.length := ⟨_, rfl⟩
      obtain ⟨rm, hrm⟩ : ∃ n, n = R.nl.length := ⟨_, rfl⟩
      rw [← hrn] at erp
      rw [← hrm] at ern
      clear hrn hrm
      subst erp ern
      have HM1 := Lib.hid (m1.down K3.out)
      have HM2 := Lib.hid (m2.down K3.out)
      have HB14 := Lib.hid (HB13.out.same m1.kept (fun x => x))
      have HB24 := Lib.hid (HB23.out.same m1.kept (fun x => x))
      obtain ⟨R0, R1, R2, R3, R4, R5⟩ := R
      clear m1 m2 x0 x1 x2 x3 x4 x5 y0 y1 y2 y3 y4 y5
      have k5 := (Kept.refl (fun _ => False) w4).alloc (.cells #[.int .i64 R0, .int .u64 (R1 : Int), .int .i64 R2, (.slice ra rn rc), .int .i64 R4, (.slice rb rm rd)] 27)
      have HM15 := Lib.hid (HM1.out.on k5)
      have HM25 := Lib.hid (HM2.out.on k5)
      have HB15 := Lib.hid (HB14.out.same k5 (fun x => x))
      have HB25 := Lib.hid (HB24.out.same k5 (fun x => x))
      have HB75 := Lib.hid (show HistBox (w4.alloc (.cells #[.int .i64 R0, .int .u64 (R1 : Int), .int .i64 R2, (.slice ra rn rc), .int .i64 R4, (.slice rb rm rd)] 27)) w4.heap.size ⟨R0, R1, R2, R3, R4, R5⟩ (.slice ra rn rc) (.slice rb rm rd) from heap_alloc_new w4 _)
      obtain ⟨w5, hw5⟩ : ∃ w', w' = w4.alloc (.cells #[.int .i64 R0, .int .u64 (R1 : Int), .int .i64 R2, (.slice ra rn rc), .int .i64 R4, (.slice rb rm rd)] 27) := ⟨_, rfl⟩
      obtain ⟨q7, hq7⟩ : ∃ x, x = w4.heap.size := ⟨_, rfl⟩
      rw [← hw5] at HM15 HM25 HB15 HB25 HB75
      rw [← hq7] at HB75
      have HW5 := Lib.hid hw5
      have HQ7 := Lib.hid hq7
      clear hw5 hq7 k5
      unfold histV
      simp only
      go_upto_region 6 with fail
      rw [← HW5.out, ← HQ7.out]
      by_cases hE : E = 0
      · have hq0 : ((E : Int) != 0) = false := bneF (by omega)
        have hE0 := Lib.hid hE
        clear hE
        obtain ⟨x0, x1, x2, x3, x4, x5⟩ := HB75.out.c
        obtain ⟨y0, y1, y2, y3, y4, y5⟩ := HB25.out.c
        have y := HB25.out.f
        simp only at x0 x1 x2 x3 x4 x5
        go_wp2
        go_roundg 0
        case measure => omega
        case rel => exact .inr ⟨rfl, rfl, hE0.out, (.slice ra rn rc), (.slice rb rm rd), HB25.out.set ⟨R0, R1, R2, R3, R4, R5⟩ (.slice ra rn rc) (.slice rb rm rd), HB15.out.same (set6_kept w5 (q + 1) _ _ _ _ _ _) (fun e => by omega), HM15.out.set6 HB25.out (by have := HQ.out; omega) _ _ _ _ _ _, HM25.out.set6 HB25.out (by have := HQ.out; omega) _ _ _ _ _ _⟩
      · have hq0 : ((E : Int) != 0) = true := bneT (by omega)
        have hR := HZ0.out hE
        clear hE
        unfold zeroH at hR
        injection hR with r0 r1 r2 r3 r4 r5
        subst r0 r1 r2 r3 r4 r5
        obtain ⟨y0, y1, y2, y3, y4, y5⟩ := HB15.out.c
        have y := HB15.out.f
        go_wp2
        refine hist_end (q := q) (h := zeroH) (pv := .slice none 0 0) (nv := .slice none 0 0) (x := .int .i64 (E : Int)) Try.results36 rfl rfl rfl (HB15.out.set zeroH (.slice none 0 0) (.slice none 0 0)) ?_
        exact HistNew.zero (HM15.out.kept.newer (set6_kept w5 q _ _ _ _ _ _) (fun k e => by have := HQ.out; omega))
    · have HE0 := Lib.hid hE0
      obtain ⟨ra, rc, erp⟩ := m1.slice
      obtain ⟨rb, rd, ern⟩ := m2.slice
      rw [uvals_length] at erp ern
      obtain ⟨rn, hrn⟩ : ∃ n, n = R.pl.length := ⟨_, rfl⟩
      obtain ⟨rm, hrm⟩ : ∃ n, n = R.nl.length := ⟨_, rfl⟩
      rw [← hrn] at erp
      rw [← hrm] at ern
      clear hrn hrm
      subst erp ern
      have HM1 := Lib.hid m1
      have HM2 := Lib.hid m2
      have HB1' := Lib.hid hb1
      have HB2' := Lib.hid hb2
      clear m1 m2 hb1 hb2 hE0
      obtain ⟨R0, R1, R2, R3, R4, R5⟩ := R
      obtain ⟨x0, x1, x2, x3, x4, x5⟩ := HB2'.out.c
      obtain ⟨y0, y1, y2, y3, y4, y5⟩ := HB1'.out.c
      have y := HB1'.out.f
      simp only at x0 x1 x2 x3 x4 x5
      go_wp2
      refine hist_end (q := q) (h := ⟨R0, R1, R2, R3, R4, R5⟩) (pv := .slice ra rn rc) (nv := .slice rb rm rd) (x := .int .i64 0) Try.results36 rfl rfl rfl (HB1'.out.set ⟨R0, R1, R2, R3, R4, R5⟩ (.slice ra rn rc) (.slice rb rm rd)) ?_
      rw [HE0.out]
      exact ⟨_, _, rfl, HM1.out.set6 HB1'.out (by have := HQ.out; omega) _ _ _ _ _ _, HM2.out.set6 HB1'.out (by have := HQ.out; omega) _ _ _ _ _ _⟩

/-- A slice of counts that lies in a block of its own from B on, whatever the counts are. -/
def U6 (B : Nat) (w : World) (v : Value) : Prop := ∃ ao n c, v = .slice ao n c ∧ n ≤ 1000000 ∧ (n = 0 ∨ ∃ g cs, ao = some ⟨g, 0, none⟩ ∧ B ≤ g ∧ w.heap[g]? = some (.cells cs 22 (0, 0)) ∧ ∀ j, j < n → ∃ z, cs[j]? = some (.int .u64 z))
theorem U6.ofMine {W w : World} {v : Value} {l : List Nat} (h : Mine W w 22 v (uvals l)) (hl : l.length ≤ 1000000) : U6 W.heap.size w v := by
  obtain ⟨a, c, e⟩ := h.slice
  rw [uvals_length] at e
  refine ⟨a, l.length, c, e, hl, ?_⟩
  by_cases h0 : l.length = 0
  · exact .inl h0
  · refine .inr ?_
    have ho := h.own
    rw [e, uvals_length] at ho
    rcases ho.2 with ⟨_, h1⟩ | ⟨g, cap, cur, e2, hb, hg, hn, hm, hs, ht⟩
    · omega
    · injection e2 with e3 _ e5
      subst e3
      refine ⟨g, cur, rfl, hb, hg, fun j hj => ?_⟩
      have hc := ho.cells (g := g) rfl j _ (uvals_get (l := l) hj)
      rw [addr_add0, cell_of_row _ _ j _ _ _ hg] at hc
      exact ⟨_, hc⟩
theorem U6.on {B : Nat} {w w' : World} {v : Value} (h : U6 B w v) (k : Kept (fun _ => False) w w') : U6 B w' v := by
  obtain ⟨ao, n, c, e, hn, h0 | ⟨g, cs, e2, hb, hg, hc⟩⟩ := h
  · exact ⟨ao, n, c, e, hn, .inl h0⟩
  · exact ⟨ao, n, c, e, hn, .inr ⟨g, cs, e2, hb, k.same hg (fun x => x), hc⟩⟩
theorem U6.set {B : Nat} {w : World} {v : Value} (h : U6 B w v) {g' : Nat} {cs' : Array Value} (hg' : w.heap[g']? = some (.cells cs' 22 (0, 0))) (j' : Nat) (x : Int) : U6 B (w.setCell ⟨g', j', none⟩ (.int .u64 x)) v := by
  obtain ⟨ao, n, c, e, hn, h0 | ⟨g, cs, e2, hb, hg, hc⟩⟩ := h
  · exact ⟨ao, n, c, e, hn, .inl h0⟩
  · by_cases hgg : g = g'
    · subst hgg
      rw [hg] at hg'
      refine ⟨ao, n, c, e, hn, .inr ⟨g, cs.setIfInBounds j' (.int .u64 x), e2, hb, by simp [World.setCell, Array.getElem?_modify, hg], fun j hj => ?_⟩⟩
      rw [Array.getElem?_setIfInBounds]
      obtain ⟨z, hz⟩ := hc j hj
      have hjs := (Array.getElem?_eq_some_iff.1 hz).1
      by_cases hjj : j' = j
      · subst hjj; rw [if_pos rfl, if_pos hjs]; exact ⟨x, rfl⟩
      · rw [if_neg hjj]; exact ⟨z, hz⟩
    · exact ⟨ao, n, c, e, hn, .inr ⟨g, cs, e2, hb, by rw [Below.heap_setCell _ _ _ _ (fun e => hgg e)]; exact hg, hc⟩⟩
theorem U6.shape {B : Nat} {w : World} {v : Value} (h : U6 B w v) : ∃ ao n c, v = .slice ao n c ∧ n ≤ 1000000 := by
  obtain ⟨ao, n, c, e, hn, _⟩ := h; exact ⟨ao, n, c, e, hn⟩
theorem U6.elem {B : Nat} {w : World} {ao : Option Addr} {n c : Nat} (h : U6 B w (.slice ao n c)) {j : Nat} (hj : j < n) : ∃ g cs z, ao = some ⟨g, 0, none⟩ ∧ B ≤ g ∧ w.heap[g]? = some (.cells cs 22 (0, 0)) ∧ w.cell? ⟨g, j, none⟩ = some (.int .u64 z) ∧ w.frozen? ⟨g, j, none⟩ = false := by
  obtain ⟨ao', n', c', e, hn, h0 | ⟨g, cs, eg, hb, hg, hc⟩⟩ := h
  · injection e with e1 e2 e3; omega
  · injection e with e1 e2 e3
    subst e1 e2 e3
    obtain ⟨z, hz⟩ := hc j hj
    refine ⟨g, cs, z, eg, hb, hg, ?_, ?_⟩
    · rw [cell_of_row _ _ j _ _ _ hg]; exact hz
    · simp [World.frozen?, hg]

/-- A row of five histograms whose counts may be changed. -/
structure RW (W w : World) (g o : Nat) (H : Nat → HistV) (P N : Nat → Value) : Prop where
  kept : Kept (fun _ => False) W w
  cells : ∀ i, i < 5 → HistCells w g (o + i * 6) (H i) (P i) (N i)
  u : ∀ i, i < 5 → U6 W.heap.size w (P i) ∧ U6 W.heap.size w (N i)
  row : ∃ cs, w.heap[g]? = some (.cells cs 27 (0, 0))
section
variable {W w w' : World} {g o : Nat} {H : Nat → HistV} {P N : Nat → Value}
theorem RW.on (h : RW W w g o H P N) (k : Kept (fun _ => False) w w') : RW W w' g o H P N := by
  obtain ⟨cs, hr⟩ := h.row
  exact ⟨h.kept.trans k, fun i hi => (h.cells i hi).on k, fun i hi => ⟨(h.u i hi).1.on k, (h.u i hi).2.on k⟩, cs, k.same hr (fun x => x)⟩
theorem set_other {g' k : Nat} {cs : Array Value} {T : TypeId} {cs' : Array Value} (hk : w.heap[k]? = some (.cells cs T (0, 0))) (hg' : w.heap[g']? = some (.cells cs' 22 (0, 0))) (hT : 22 ≠ T) (j : Nat) (x : Value) : (w.setCell ⟨g', j, none⟩ x).heap[k]? = some (.cells cs T (0, 0)) := by
  have hne : k ≠ g' := by
    intro e
    subst e
    rw [hk] at hg'
    injection hg' with hg'
    injection hg' with _ e2
    exact hT e2.symm
  rw [Below.heap_setCell _ _ _ _ (fun e => hne e)]
  exact hk
theorem RW.set (h : RW W w g o H P N) {g' : Nat} {cs' : Array Value} (hb : W.heap.size ≤ g') (hg' : w.heap[g']? = some (.cells cs' 22 (0, 0))) (j : Nat) (x : Int) : RW W (w.setCell ⟨g', j, none⟩ (.int .u64 x)) g o H P N := by
  obtain ⟨cs, hr⟩ := h.row
  have hr' := set_other hr hg' (by decide) j (.int .u64 x)
  refine ⟨h.kept.setCell (p := ⟨g', j, none⟩) (fun hlt => by simp only at hlt; omega) _, fun i hi => ?_, fun i hi => ⟨(h.u i hi).1.set hg' j x, (h.u i hi).2.set hg' j x⟩, cs, hr'⟩
  have hc := h.cells i hi
  have key : ∀ k, (w.setCell ⟨g', j, none⟩ (.int .u64 x)).cell? ⟨g, k, none⟩ = w.cell? ⟨g, k, none⟩ := fun k => by
    rw [cell_of_row _ _ k _ _ _ hr', cell_of_row _ _ k _ _ _ hr]
  exact ⟨by rw [key]; exact hc.c0, by rw [key]; exact hc.c1, by rw [key]; exact hc.c2, by rw [key]; exact hc.c3, by rw [key]; exact hc.c4, by rw [key]; exact hc.c5⟩
theorem HistBox.setU {q : Nat} {h : HistV} {pv nv : Value} (b : HistBox w q h pv nv) {g' : Nat} {cs' : Array Value} (hg' : w.heap[g']? = some (.cells cs' 22 (0, 0))) (j : Nat) (x : Value) : HistBox (w.setCell ⟨g', j, none⟩ x) q h pv nv := set_other b hg' (by decide) j x
end
/-- Five. -/
def five {α : Type} (a b c d e : α) : Nat → α
  | 0 => a
  | 1 => b
  | 2 => c
  | 3 => d
  | _ => e
/-- A row that was just made of five. -/
theorem RW.mk5 {W w : World} {h0 h1 h2 h3 h4 : HistV} {p0 p1 p2 p3 p4 n0 n1 n2 n3 n4 : Value} (hk : Kept (fun _ => False) W w)
    (u0 : U6 W.heap.size w p0) (u1 : U6 W.heap.size w p1) (u2 : U6 W.heap.size w p2) (u3 : U6 W.heap.size w p3) (u4 : U6 W.heap.size w p4) (v0 : U6 W.heap.size w n0) (v1 : U6 W.heap.size w n1) (v2 : U6 W.heap.size w n2) (v3 : U6 W.heap.size w n3) (v4 : U6 W.heap.size w n4) :
    RW W (w.alloc (.cells #[.int .i64 h0.sc, .int .u64 (h0.ze : Int), .int .i64 h0.po, p0, .int .i64 h0.no, n0, .int .i64 h1.sc, .int .u64 (h1.ze : Int), .int .i64 h1.po, p1, .int .i64 h1.no, n1, .int .i64 h2.sc, .int .u64 (h2.ze : Int), .int .i64 h2.po, p2, .int .i64 h2.no, n2, .int .i64 h3.sc, .int .u64 (h3.ze : Int), .int .i64 h3.po, p3, .int .i64 h3.no, n3, .int .i64 h4.sc, .int .u64 (h4.ze : Int), .int .i64 h4.po, p4, .int .i64 h4.no, n4] 27)) w.heap.size 0 (five h0 h1 h2 h3 h4) (five p0 p1 p2 p3 p4) (five n0 n1 n2 n3 n4) := by
  have k1 := (Kept.refl (fun _ => False) w).alloc (.cells #[.int .i64 h0.sc, .int .u64 (h0.ze : Int), .int .i64 h0.po, p0, .int .i64 h0.no, n0, .int .i64 h1.sc, .int .u64 (h1.ze : Int), .int .i64 h1.po, p1, .int .i64 h1.no, n1, .int .i64 h2.sc, .int .u64 (h2.ze : Int), .int .i64 h2.po, p2, .int .i64 h2.no, n2, .int .i64 h3.sc, .int .u64 (h3.ze : Int), .int .i64 h3.po, p3, .int .i64 h3.no, n3, .int .i64 h4.sc, .int .u64 (h4.ze : Int), .int .i64 h4.po, p4, .int .i64 h4.no, n4] 27)
  refine ⟨hk.trans k1, fun i hi => ?_, fun i hi => ?_, _, heap_alloc_new w _⟩
  · have hc := fun j => cell_of_row _ w.heap.size j _ _ _ (heap_alloc_new w (.cells #[.int .i64 h0.sc, .int .u64 (h0.ze : Int), .int .i64 h0.po, p0, .int .i64 h0.no, n0, .int .i64 h1.sc, .int .u64 (h1.ze : Int), .int .i64 h1.po, p1, .int .i64 h1.no, n1, .int .i64 h2.sc, .int .u64 (h2.ze : Int), .int .i64 h2.po, p2, .int .i64 h2.no, n2, .int .i64 h3.sc, .int .u64 (h3.ze : Int), .int .i64 h3.po, p3, .int .i64 h3.no, n3, .int .i64 h4.sc, .int .u64 (h4.ze : Int), .int .i64 h4.po, p4, .int .i64 h4.no, n4] 27))
    match i, hi with
    | 0, _ => exact ⟨(hc 0).trans rfl, (hc 1).trans rfl, (hc 2).trans rfl, (hc 3).trans rfl, (hc 4).trans rfl, (hc 5).trans rfl⟩
    | 1, _ => exact ⟨(hc 6).trans rfl, (hc 7).trans rfl, (hc 8).trans rfl, (hc 9).trans rfl, (hc 10).trans rfl, (hc 11).trans rfl⟩
    | 2, _ => exact ⟨(hc 12).trans rfl, (hc 13).trans rfl, (hc 14).trans rfl, (hc 15).trans rfl, (hc 16).trans rfl, (hc 17).trans rfl⟩
    | 3, _ => exact ⟨(hc 18).trans rfl, (hc 19).trans rfl, (hc 20).trans rfl, (hc 21).trans rfl, (hc 22).trans rfl, (hc 23).trans rfl⟩
    | 4, _ => exact ⟨(hc 24).trans rfl, (hc 25).trans rfl, (hc 26).trans rfl, (hc 27).trans rfl, (hc 28).trans rfl, (hc 29).trans rfl⟩
    | k + 5, h => omega
  · match i, hi with
    | 0, _ => exact ⟨u0.on k1, v0.on k1⟩
    | 1, _ => exact ⟨u1.on k1, v1.on k1⟩
    | 2, _ => exact ⟨u2.on k1, v2.on k1⟩
    | 3, _ => exact ⟨u3.on k1, v3.on k1⟩
    | 4, _ => exact ⟨u4.on k1, v4.on k1⟩
    | k + 5, h => omega
end Go.Proofs.Ytbjpcddnjndjlaa
