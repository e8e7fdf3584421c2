/- package histbits: countsOf, shapeOf, NewRow, Len, goOn. -/
import Derived.Test.YtjpnfadmblmjbaaDoorJ4
import Derived.Test.YtjpnfadmblmjbaaDoorHC
namespace Go.Proofs.YtjpnfadmblmjbaaDoor
open Go.RowKit
attribute [local go_sem ↓] Go.wp_at_zero Go.wp_at_succ

/-- A histogram's counts. -/
def cntL (h : HistV) : List Nat := h.ze :: (h.pl ++ h.nl)
theorem cntL_length (h : HistV) : (cntL h).length = 1 + h.pl.length + h.nl.length := by unfold cntL; simp; omega
/-- Its shape as a value. -/
def shapeV (h : HistV) : Value := .agg #[.int .i64 h.sc, .int .i64 h.po, .int .i64 (h.pl.length : Int), .int .i64 h.no, .int .i64 (h.nl.length : Int)]

/-- A new block whose cells are a row's. -/
theorem own_freshZ (w : World) (E : TypeId) (s : Nat) (xs : List Value) (n : Nat) (hl : xs.length = n * s) (hm : n ≤ maxLen) : (w.alloc (.cells xs.toArray E)).ownsRow w.heap.size E s (.slice (some ⟨w.heap.size, 0, none⟩) n n) n xs :=
  ⟨hl, .inr ⟨w.heap.size, n, _, rfl, Nat.le_refl _, heap_alloc_new w _, Nat.le_refl _, hm, by simp [hl], by rw [← hl]; simp⟩⟩
set_option maxHeartbeats 2000000 in
theorem countsOf_any (h : HistV) (pv nv : Value) (w : World) (ha : HistAt w h pv nv) (hp : h.pl.length ≤ 1000000) (hn : h.nl.length ≤ 1000000) :
    Calls Tryd.prog 65 #[histV h pv nv] w fun e w' => ∃ a c, e = .returned (.slice a (cntL h).length c) ∧ Mine w w' 28 (.slice a (cntL h).length c) (uvals (cntL h)) := by
  obtain ⟨⟨ao, c, rfl⟩, bo, d, rfl⟩ := ha.sl
  obtain ⟨sc, ze, po, pl, no, nl⟩ := h
  unfold histV
  simp only at hp hn ha ⊢
  have HA := Lib.hid ha
  have HL := Lib.hid (And.intro hp hn)
  have HCN := Lib.hid (show uvals (cntL ⟨sc, ze, po, pl, no, nl⟩) = [.int .u64 (ze : Int)] ++ uvals pl ++ uvals nl by unfold cntL uvals; simp)
  obtain ⟨w0, hw0⟩ : ∃ w0, w0 = w.alloc (.cells #[.int .i64 sc, .int .u64 (ze : Int), .int .i64 po, .slice ao pl.length c, .int .i64 no, .slice bo nl.length d] 62) := ⟨_, rfl⟩
  have HB := Lib.hid (show HistBox w0 w.heap.size ⟨sc, ze, po, pl, no, nl⟩ (.slice ao pl.length c) (.slice bo nl.length d) by rw [hw0]; exact hist_boxed w ⟨sc, ze, po, pl, no, nl⟩ _ _)
  have HK := Lib.hid (show Kept (fun _ => False) w w0 by rw [hw0]; exact (Kept.refl _ _).alloc _)
  have HW0 := Lib.hid hw0
  obtain ⟨q, hq⟩ : ∃ q, q = w.heap.size := ⟨_, rfl⟩
  have HQ := Lib.hid hq
  rw [← hq] at HB
  have HM0 := Lib.hid (show Mine w0 (w0.alloc (.cells #[.int .u64 (ze : Int)] 28)) 28 (.slice (some ⟨w0.heap.size, 0, none⟩) 1 1) [.int .u64 (ze : Int)] from ⟨own_freshZ w0 _ 1 [.int .u64 (ze : Int)] 1 rfl (by simp [maxLen]), (Kept.refl _ _).alloc _⟩)
  have HS1 := Lib.hid ((HA.out.p.kept (HK.out.alloc (.cells #[.int .u64 (ze : Int)] 28)) (fun _ _ x => x)).src (P := Tryd.prog) Tryd.underlying22 (uvals_one _))
  rw [uvals_length] at HS1
  clear ha hp hn hw0 hq
  obtain ⟨x0, x1, x2, x3, x4, x5⟩ := HB.out.c
  simp only at x0 x1 x2 x3 x4 x5
  have xa := fun o => ((Kept.refl (fun _ => False) w0).alloc o).cell x3 (fun x => x)
  go_enter Tryd.func65, Tryd.ntmps65
  go_upto_region 1 with fail
  rw [← HW0.out, ← HQ.out]
  go_upto_region 2 with (at_builtin; refine wpList_mineU rfl (.tmp 6) (.tmp 9) rfl w0 _ _ rfl HM0.out _ (uvals pl) rfl (by rw [uvals_length]; exact HS1.out) (by rw [uvals_length]; have := HL.out.1; simp; omega) ?_; intro v6 w6 hm6 hk6 _; obtain ⟨a6, c6, e6⟩ := hm6.slice; obtain ⟨n6, hn6⟩ : ∃ n, v6 = Value.slice a6 n c6 := ⟨_, e6⟩; subst hn6; have HM6 := Lib.hid hm6; have HB6 := Lib.hid (hm6.kept.same HB.out (fun x => x)); clear hm6 hk6 e6 x0 x1 x2 x3 x4 x5 xa)
  obtain ⟨x0, x1, x2, x3, x4, x5⟩ := HistBox.c (h := ⟨sc, ze, po, pl, no, nl⟩) HB6.out
  simp only at x0 x1 x2 x3 x4 x5
  have HS2 := Lib.hid ((HA.out.n.kept (HK.out.trans HM6.out.kept) (fun _ _ x => x)).src (P := Tryd.prog) Tryd.underlying22 (uvals_one _))
  rw [uvals_length] at HS2
  go_wp2_with (at_builtin; refine wpList_mineU rfl (.tmp 11) (.tmp 14) rfl w0 _ _ rfl HM6.out _ (uvals nl) rfl (by rw [uvals_length]; exact HS2.out) (by rw [List.length_append, uvals_length, uvals_length]; have := HL.out; simp; omega) ?_; intro v7 w7 hm7 hk7 _; have HM7 := Lib.hid hm7; clear hm7 hk7)
  go_ret
  have hm := HM7.out.down HK.out
  rw [← HCN.out] at hm
  obtain ⟨a7, c7, e7⟩ := hm.slice
  rw [uvals_length] at e7
  rw [e7] at hm ⊢
  exact ⟨a7, c7, rfl, hm⟩

set_option maxHeartbeats 2000000 in
theorem shapeOf_any (h : HistV) (pv nv : Value) (w : World) (ha : HistAt w h pv nv) :
    Calls Tryd.prog 66 #[histV h pv nv] w fun e w' => e = .returned (shapeV h) ∧ Kept (fun _ => False) w w' := by
  obtain ⟨⟨ao, c, rfl⟩, bo, d, rfl⟩ := ha.sl
  obtain ⟨sc, ze, po, pl, no, nl⟩ := h
  unfold histV shapeV
  simp only
  clear ha
  obtain ⟨pn, hpn⟩ : ∃ n, n = pl.length := ⟨_, rfl⟩
  obtain ⟨nn, hnn⟩ : ∃ n, n = nl.length := ⟨_, rfl⟩
  rw [← hpn, ← hnn]
  clear hpn hnn
  obtain ⟨w0, hw0⟩ : ∃ w0, w0 = (w.alloc (.cells #[.int .i64 sc, .int .u64 (ze : Int), .int .i64 po, .slice ao pn c, .int .i64 no, .slice bo nn d] 62)).alloc (.cells #[.int .i64 0, .int .i64 0, .int .i64 0, .int .i64 0, .int .i64 0] 101) := ⟨_, rfl⟩
  have HK := Lib.hid (show Kept (fun _ => False) w w0 by rw [hw0]; exact ((Kept.refl _ _).alloc _).alloc _)
  have h1 : w0.heap[w.heap.size]? = some (.cells #[.int .i64 sc, .int .u64 (ze : Int), .int .i64 po, .slice ao pn c, .int .i64 no, .slice bo nn d] 62 (0, 0)) := by
    rw [hw0]; exact ((Kept.refl (fun _ => False) _).alloc _).same (heap_alloc_new w _) (fun x => x)
  have h2 : w0.heap[w.heap.size + 1]? = some (.cells #[.int .i64 0, .int .i64 0, .int .i64 0, .int .i64 0, .int .i64 0] 101 (0, 0)) := by
    rw [hw0]
    have := heap_alloc_new (w.alloc (.cells #[.int .i64 sc, .int .u64 (ze : Int), .int .i64 po, .slice ao pn c, .int .i64 no, .slice bo nn d] 62)) (.cells #[.int .i64 0, .int .i64 0, .int .i64 0, .int .i64 0, .int .i64 0] 101)
    simpa using this
  have HW0 := Lib.hid hw0
  have H2 := Lib.hid h2
  obtain ⟨q, hq⟩ : ∃ q, q = w.heap.size := ⟨_, rfl⟩
  have HQ := Lib.hid hq
  rw [← hq] at h1 h2 H2
  have hc := fun j => cell_of_row _ q j _ _ _ h1
  have x0 : w0.cell? ⟨q, 0, none⟩ = some (.int .i64 sc) := (hc 0).trans rfl
  have x2 : w0.cell? ⟨q, 2, none⟩ = some (.int .i64 po) := (hc 2).trans rfl
  have x3 : w0.cell? ⟨q, 3, none⟩ = some (.slice ao pn c) := (hc 3).trans rfl
  have x4 : w0.cell? ⟨q, 4, none⟩ = some (.int .i64 no) := (hc 4).trans rfl
  have x5 : w0.cell? ⟨q, 5, none⟩ = some (.slice bo nn d) := (hc 5).trans rfl
  have hd := fun j => cell_of_row _ (q + 1) j _ _ _ h2
  have y0 : w0.cell? ⟨q + 1, 0, none⟩ = some (.int .i64 0) := (hd 0).trans rfl
  have y1 : w0.cell? ⟨q + 1, 1, none⟩ = some (.int .i64 0) := (hd 1).trans rfl
  have y2 : w0.cell? ⟨q + 1, 2, none⟩ = some (.int .i64 0) := (hd 2).trans rfl
  have y3 : w0.cell? ⟨q + 1, 3, none⟩ = some (.int .i64 0) := (hd 3).trans rfl
  have y4 : w0.cell? ⟨q + 1, 4, none⟩ = some (.int .i64 0) := (hd 4).trans rfl
  have z0 : w0.frozen? ⟨q + 1, 0, none⟩ = false := by simp [World.frozen?, h2]
  have z1 : w0.frozen? ⟨q + 1, 1, none⟩ = false := by simp [World.frozen?, h2]
  have z2 : w0.frozen? ⟨q + 1, 2, none⟩ = false := by simp [World.frozen?, h2]
  have z3 : w0.frozen? ⟨q + 1, 3, none⟩ = false := by simp [World.frozen?, h2]
  have z4 : w0.frozen? ⟨q + 1, 4, none⟩ = false := by simp [World.frozen?, h2]
  clear hw0 hq h1 h2 hc hd
  go_enter Tryd.func66, Tryd.ntmps66
  go_upto_region 1 with fail
  rw [← HW0.out, ← HQ.out]
  go_wp2
  have e0 := heap_setCell_same _ _ 0 _ _ (.int .i64 sc) H2.out
  have e1 := heap_setCell_same _ _ 1 _ _ (.int .i64 po) e0
  have e2 := heap_setCell_same _ _ 2 _ _ (.int .i64 (pn : Int)) e1
  have e3 := heap_setCell_same _ _ 3 _ _ (.int .i64 no) e2
  have e4 := heap_setCell_same _ _ 4 _ _ (.int .i64 (nn : Int)) e3
  refine bodyPost_ret (v := .agg #[.int .i64 sc, .int .i64 po, .int .i64 (pn : Int), .int .i64 no, .int .i64 (nn : Int)]) ?_ rfl ?_
  · exact results_cell_row Tryd.results66 _ _ (q + 1) 101 _ (0, 0) _ (by rw [HQ.out]; rfl) (by simpa using e4) Tryd.underlying101 rfl (by kernel_rfl)
  · exact ⟨rfl, ((((HK.out.setCell (p := ⟨q + 1, 0, none⟩) (fun hlt => by simp only at hlt; have := HQ.out; omega) _).setCell (p := ⟨q + 1, 1, none⟩) (fun hlt => by simp only at hlt; have := HQ.out; omega) _).setCell (p := ⟨q + 1, 2, none⟩) (fun hlt => by simp only at hlt; have := HQ.out; omega) _).setCell (p := ⟨q + 1, 3, none⟩) (fun hlt => by simp only at hlt; have := HQ.out; omega) _).setCell (p := ⟨q + 1, 4, none⟩) (fun hlt => by simp only at hlt; have := HQ.out; omega) _⟩
end Go.Proofs.YtjpnfadmblmjbaaDoor
