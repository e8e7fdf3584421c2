/- package hist: Clone. -/
import Derived.Test.YtjpnfadmblmjbaaDoorHX
namespace Go.Proofs.YtjpnfadmblmjbaaDoor
open Go.RowKit
attribute [local go_sem ↓] Go.wp_at_zero Go.wp_at_succ

theorem six_set3 {w : World} {g : Nat} {a b c d e f x : Value} {T : TypeId} (h : w.heap[g]? = some (.cells #[a, b, c, d, e, f] T (0, 0))) : (w.setCell ⟨g, 3, none⟩ x).heap[g]? = some (.cells #[a, b, c, x, e, f] T (0, 0)) := by
  have h1 := heap_setCell_same _ _ 3 _ _ x h
  simpa using h1
theorem six_set5 {w : World} {g : Nat} {a b c d e f x : Value} {T : TypeId} (h : w.heap[g]? = some (.cells #[a, b, c, d, e, f] T (0, 0))) : (w.setCell ⟨g, 5, none⟩ x).heap[g]? = some (.cells #[a, b, c, d, e, x] T (0, 0)) := by
  have h1 := heap_setCell_same _ _ 5 _ _ x h
  simpa using h1
theorem cell_other9 {w : World} {g k : Nat} {o : Nat} {x : Value} (h : k ≠ g) : (w.setCell ⟨g, o, none⟩ x).heap[k]? = w.heap[k]? := Below.heap_setCell _ _ _ _ (fun e => h e)
theorem mine_box {W w : World} {v : Value} {xs : List Value} {k : Nat} {cs : Array Value} (h : Mine W w 28 v xs) (hb : w.heap[k]? = some (.cells cs 62 (0, 0))) : v.ownBlock ≠ some k := own_box h.own hb (by decide)

set_option maxHeartbeats 2000000 in
theorem hclone_any (h : HistV) (pv nv : Value) (w : World) (ha : HistAt w h pv nv) (hp : h.pl.length ≤ 1000000) (hn : h.nl.length ≤ 1000000) :
    Calls Tryd.prog 63 #[histV h pv nv] w fun e w' => ∃ p n, e = .returned (histV h p n) ∧ Mine w w' 28 p (uvals h.pl) ∧ Mine w w' 28 n (uvals h.nl) := by
  obtain ⟨⟨ao, c, rfl⟩, bo, d, rfl⟩ := ha.sl
  obtain ⟨sc, ze, po, pl, no, nl⟩ := h
  unfold histV
  simp only at hp hn ha ⊢
  obtain ⟨w0, hw0⟩ : ∃ w0, w0 = (w.alloc (.cells #[.int .i64 sc, .int .u64 (ze : Int), .int .i64 po, .slice ao pl.length c, .int .i64 no, .slice bo nl.length d] 62)).alloc (.cells #[.int .i64 0, .int .u64 0, .int .i64 0, .slice none 0 0, .int .i64 0, .slice none 0 0] 62) := ⟨_, rfl⟩
  have K0 : Kept (fun _ => False) w w0 := by rw [hw0]; exact ((Kept.refl _ _).alloc _).alloc _
  have h1 : w0.heap[w.heap.size]? = some (.cells #[.int .i64 sc, .int .u64 (ze : Int), .int .i64 po, .slice ao pl.length c, .int .i64 no, .slice bo nl.length d] 62 (0, 0)) := by
    rw [hw0]; exact ((Kept.refl (fun _ => False) _).alloc _).same (heap_alloc_new w _) (fun x => x)
  have h2 : w0.heap[w.heap.size + 1]? = some (.cells #[.int .i64 0, .int .u64 0, .int .i64 0, .slice none 0 0, .int .i64 0, .slice none 0 0] 62 (0, 0)) := by
    rw [hw0]
    have := heap_alloc_new (w.alloc (.cells #[.int .i64 sc, .int .u64 (ze : Int), .int .i64 po, .slice ao pl.length c, .int .i64 no, .slice bo nl.length d] 62)) (.cells #[.int .i64 0, .int .u64 0, .int .i64 0, .slice none 0 0, .int .i64 0, .slice none 0 0] 62)
    simpa using this
  have HA := Lib.hid ha
  have HK0 := Lib.hid K0
  have H1 := Lib.hid h1
  have H2 := Lib.hid h2
  have HW0 := Lib.hid hw0
  have HL := Lib.hid (And.intro hp hn)
  obtain ⟨q, hq⟩ : ∃ q, q = w.heap.size := ⟨_, rfl⟩
  have HQ := Lib.hid hq
  rw [← hq] at H1 H2
  clear ha K0 h1 h2 hw0 hp hn hq
  go_enter Tryd.func63, Tryd.ntmps63
  go_upto_region 1 with fail
  rw [← HW0.out, ← HQ.out]
  obtain ⟨x0, x1, x2, x3, x4, x5⟩ := HistBox.c (h := ⟨sc, ze, po, pl, no, nl⟩) (show HistBox w0 q ⟨sc, ze, po, pl, no, nl⟩ _ _ from H1.out)
  go_wp2_with fail
  refine (sclone_any (.slice ao pl.length c) (uvals pl) w0 (HA.out.on HK0.out).p (uvals_one _) (by rw [uvals_length]; have := HL.out.1; omega)).mono ?_
  rintro e w1 ⟨v1, rfl, hm1⟩
  obtain ⟨a1, c1, rfl⟩ := hm1.slice
  rw [uvals_length] at hm1 ⊢
  have HM1 := Lib.hid hm1
  have H1a := Lib.hid (hm1.kept.same H1.out (fun x => x))
  have H2a := Lib.hid (hm1.kept.same H2.out (fun x => x))
  have y := HistBox.f (h := ⟨sc, ze, po, pl, no, nl⟩) (show HistBox w1 q ⟨sc, ze, po, pl, no, nl⟩ _ _ from H1a.out)
  obtain ⟨z0, z1, z2, z3, z4, z5⟩ := HistBox.c (h := ⟨sc, ze, po, pl, no, nl⟩) (show HistBox w1 q ⟨sc, ze, po, pl, no, nl⟩ _ _ from H1a.out)
  clear hm1 x0 x1 x2 x3 x4 x5
  go_upto_region 2 with fail
  have hks := (Kept.refl (fun k => k = q) w1).setCell (p := ⟨q, 3, none⟩) (fun _ => rfl) (.slice a1 pl.length c1)
  have H1b := Lib.hid (six_set3 (x := .slice a1 pl.length c1) H1a.out)
  have H2b := Lib.hid ((cell_other9 (w := w1) (g := q) (k := q + 1) (o := 3) (x := .slice a1 pl.length c1) (by omega)).trans H2a.out)
  have HKs := Lib.hid ((HK0.out.trans HM1.out.kept).setCell (p := ⟨q, 3, none⟩) (fun hlt => by simp only at hlt; have := HQ.out; omega) (.slice a1 pl.length c1))
  have HM1b := Lib.hid ((HM1.out.down HK0.out).keptS hks (fun k e x => mine_box HM1.out H1a.out (by rw [e, x])) (fun k e => by have := HQ.out; omega))
  obtain ⟨ws, hws⟩ : ∃ ws, ws = w1.setCell ⟨q, 3, none⟩ (.slice a1 pl.length c1) := ⟨_, rfl⟩
  rw [← hws] at H1b H2b HKs HM1b ⊢
  clear hws hks y z0 z1 z2 z3 z4 z5
  obtain ⟨x0, x1, x2, x3, x4, x5⟩ := HistBox.c (h := ⟨sc, ze, po, pl, no, nl⟩) (show HistBox ws q ⟨sc, ze, po, pl, no, nl⟩ _ _ from H1b.out)
  go_wp2_with fail
  refine (sclone_any (.slice bo nl.length d) (uvals nl) ws (HA.out.on HKs.out).n (uvals_one _) (by rw [uvals_length]; have := HL.out.2; omega)).mono ?_
  rintro e w2 ⟨v2, rfl, hm2⟩
  obtain ⟨a2, c2, rfl⟩ := hm2.slice
  rw [uvals_length] at hm2 ⊢
  have HM2 := Lib.hid hm2
  have HM1c := Lib.hid (HM1b.out.on hm2.kept)
  have H1c := Lib.hid (hm2.kept.same H1b.out (fun x => x))
  have H2c := Lib.hid (hm2.kept.same H2b.out (fun x => x))
  have y := HistBox.f (h := ⟨sc, ze, po, pl, no, nl⟩) (show HistBox w2 q ⟨sc, ze, po, pl, no, nl⟩ _ _ from H1c.out)
  obtain ⟨z0, z1, z2, z3, z4, z5⟩ := HistBox.c (h := ⟨sc, ze, po, pl, no, nl⟩) (show HistBox w2 q ⟨sc, ze, po, pl, no, nl⟩ _ _ from H1c.out)
  clear hm2 x0 x1 x2 x3 x4 x5
  go_upto_region 3 with fail
  have hks := (Kept.refl (fun k => k = q) w2).setCell (p := ⟨q, 5, none⟩) (fun _ => rfl) (.slice a2 nl.length c2)
  have H1d := Lib.hid (six_set5 (x := .slice a2 nl.length c2) H1c.out)
  have H2d := Lib.hid ((cell_other9 (w := w2) (g := q) (k := q + 1) (o := 5) (x := .slice a2 nl.length c2) (by omega)).trans H2c.out)
  have HM1d := Lib.hid (HM1c.out.keptS hks (fun k e x => mine_box HM1c.out H1c.out (by rw [e, x])) (fun k e => by have := HQ.out; omega))
  have HM2d := Lib.hid ((HM2.out.down HKs.out).keptS hks (fun k e x => mine_box HM2.out H1c.out (by rw [e, x])) (fun k e => by have := HQ.out; omega))
  obtain ⟨wt, hwt⟩ : ∃ ws, ws = w2.setCell ⟨q, 5, none⟩ (.slice a2 nl.length c2) := ⟨_, rfl⟩
  rw [← hwt] at H1d H2d HM1d HM2d ⊢
  clear hwt hks y z0 z1 z2 z3 z4 z5
  obtain ⟨x0, x1, x2, x3, x4, x5⟩ := HistBox.c (h := ⟨sc, ze, po, pl, no, nl⟩) (show HistBox wt q ⟨sc, ze, po, pl, no, nl⟩ _ _ from H1d.out)
  have hz := show HistBox wt (q + 1) zeroH (.slice none 0 0) (.slice none 0 0) from H2d.out
  obtain ⟨z0, z1, z2, z3, z4, z5⟩ := hz.c
  have y := hz.f
  have hset := Lib.hid (hz.set ⟨sc, ze, po, pl, no, nl⟩ (.slice a1 pl.length c1) (.slice a2 nl.length c2))
  have hk6 := Lib.hid (set6_kept wt (q + 1) (.int .i64 sc) (.int .u64 (ze : Int)) (.int .i64 po) (.slice a1 pl.length c1) (.int .i64 no) (.slice a2 nl.length c2))
  clear hz
  go_wp2
  refine bodyPost_ret (v := .agg #[.int .i64 sc, .int .u64 (ze : Int), .int .i64 po, .slice a1 pl.length c1, .int .i64 no, .slice a2 nl.length c2]) ?_ rfl ?_
  · exact results_cell_row Tryd.results63 _ _ (q + 1) 62 _ (0, 0) _ (by rw [HQ.out]; rfl) hset.out Tryd.underlying62 rfl hist_info
  · exact ⟨_, _, rfl, HM1d.out.keptS hk6.out (fun k e x => mine_box HM1d.out H2d.out (by rw [e, x])) (fun k e => by have := HQ.out; omega), HM2d.out.keptS hk6.out (fun k e x => mine_box HM2d.out H2d.out (by rw [e, x])) (fun k e => by have := HQ.out; omega)⟩
end Go.Proofs.YtjpnfadmblmjbaaDoor
