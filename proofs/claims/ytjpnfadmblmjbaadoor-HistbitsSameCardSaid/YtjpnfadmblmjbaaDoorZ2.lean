/- package histbits: a row in memory; NewRow, Len, goOn. -/
import Derived.Test.YtjpnfadmblmjbaaDoorZ1
namespace Go.Proofs.YtjpnfadmblmjbaaDoor
open Go.RowKit
attribute [local go_sem ↓] Go.wp_at_zero Go.wp_at_succ

/-- A row of histograms in its block: how many, and the last one. -/
def HRow (w : World) (r n : Nat) (h : HistV) (pv nv : Value) : Prop := w.heap[r]? = some (.cells #[.int .i64 (n : Int), .int .i64 h.sc, .int .u64 (h.ze : Int), .int .i64 h.po, pv, .int .i64 h.no, nv] 97 (0, 0))
theorem HRow.c {w : World} {r n : Nat} {h : HistV} {pv nv : Value} (b : HRow w r n h pv nv) : w.cell? ⟨r, 0, none⟩ = some (.int .i64 (n : Int)) ∧ w.cell? ⟨r, 1, none⟩ = some (.int .i64 h.sc) ∧ w.cell? ⟨r, 2, none⟩ = some (.int .u64 (h.ze : Int)) ∧ w.cell? ⟨r, 3, none⟩ = some (.int .i64 h.po) ∧ w.cell? ⟨r, 4, none⟩ = some pv ∧ w.cell? ⟨r, 5, none⟩ = some (.int .i64 h.no) ∧ w.cell? ⟨r, 6, none⟩ = some nv := by
  refine ⟨?_, ?_, ?_, ?_, ?_, ?_, ?_⟩
  · rw [cell_of_row _ _ 0 _ _ _ b]; rfl
  · rw [cell_of_row _ _ 1 _ _ _ b]; rfl
  · rw [cell_of_row _ _ 2 _ _ _ b]; rfl
  · rw [cell_of_row _ _ 3 _ _ _ b]; rfl
  · rw [cell_of_row _ _ 4 _ _ _ b]; rfl
  · rw [cell_of_row _ _ 5 _ _ _ b]; rfl
  · rw [cell_of_row _ _ 6 _ _ _ b]; rfl
theorem HRow.f {w : World} {r n : Nat} {h : HistV} {pv nv : Value} (b : HRow w r n h pv nv) (j : Nat) : w.frozen? ⟨r, j, none⟩ = false := by
  unfold HRow at b; simp [World.frozen?, b]
theorem HRow.same {S : Nat → Prop} {w w' : World} {r n : Nat} {h : HistV} {pv nv : Value} (b : HRow w r n h pv nv) (hk : Kept S w w') (hn : ¬ S r) : HRow w' r n h pv nv := hk.same b hn
theorem HRow.lt {w : World} {r n : Nat} {h : HistV} {pv nv : Value} (b : HRow w r n h pv nv) : r < w.heap.size := (Array.getElem?_eq_some_iff.1 b).1
/-- The last one is set, then how many. -/
def setHR (w : World) (r : Nat) (a b c d e f : Value) : World := (((((w.setCell ⟨r, 1, none⟩ a).setCell ⟨r, 2, none⟩ b).setCell ⟨r, 3, none⟩ c).setCell ⟨r, 4, none⟩ d).setCell ⟨r, 5, none⟩ e).setCell ⟨r, 6, none⟩ f
theorem HRow.set {w : World} {r n : Nat} {h : HistV} {pv nv : Value} (b : HRow w r n h pv nv) (h' : HistV) (pv' nv' : Value) : HRow (setHR w r (.int .i64 h'.sc) (.int .u64 (h'.ze : Int)) (.int .i64 h'.po) pv' (.int .i64 h'.no) nv') r n h' pv' nv' := by
  unfold HRow setHR at *; simp [World.setCell, Array.getElem?_modify, b]
theorem setHR_kept (w : World) (r : Nat) (a b c d e f : Value) : Kept (fun k => k = r) w (setHR w r a b c d e f) :=
  ((((((Kept.refl (fun k => k = r) w).setCell (p := ⟨r, 1, none⟩) (fun _ => rfl) a).setCell (p := ⟨r, 2, none⟩) (fun _ => rfl) b).setCell (p := ⟨r, 3, none⟩) (fun _ => rfl) c).setCell (p := ⟨r, 4, none⟩) (fun _ => rfl) d).setCell (p := ⟨r, 5, none⟩) (fun _ => rfl) e).setCell (p := ⟨r, 6, none⟩) (fun _ => rfl) f
theorem HRow.setN {w : World} {r n : Nat} {h : HistV} {pv nv : Value} (b : HRow w r n h pv nv) (m : Nat) : HRow (w.setCell ⟨r, 0, none⟩ (.int .i64 (m : Int))) r m h pv nv := by
  unfold HRow at *; simp [World.setCell, Array.getElem?_modify, b]
theorem mine_hrow {W w : World} {v : Value} {xs : List Value} {r n : Nat} {h : HistV} {pv nv : Value} (m : Mine W w 28 v xs) (b : HRow w r n h pv nv) : v.ownBlock ≠ some r := own_box m.own b (by decide)

set_option maxHeartbeats 400000 in
theorem hnewRow_any (w : World) :
    Calls Tryd.prog 37 #[] w fun e w' => e = .returned (.pointer (some ⟨w.heap.size, 0, none⟩)) ∧ HRow w' w.heap.size 0 zeroH (.slice none 0 0) (.slice none 0 0) ∧ Kept (fun _ => False) w w' := by
  have HB := Lib.hid (show HRow (w.alloc (.cells #[.int .i64 0, .int .i64 0, .int .u64 0, .int .i64 0, .slice none 0 0, .int .i64 0, .slice none 0 0] 97)) w.heap.size 0 zeroH (.slice none 0 0) (.slice none 0 0) from heap_alloc_new w _)
  go_enter Tryd.func37, Tryd.ntmps37
  go_wp2
  go_ret
  exact ⟨rfl, HB.out, (Kept.refl _ _).alloc _⟩
set_option maxHeartbeats 400000 in
theorem hlen_any (r n : Nat) (h : HistV) (pv nv : Value) (w : World) (hr : HRow w r n h pv nv) :
    Calls Tryd.prog 42 #[.pointer (some ⟨r, 0, none⟩)] w fun e w' => e = .returned (.int .i64 (n : Int)) ∧ w' = w := by
  obtain ⟨x0, _⟩ := hr.c
  clear hr
  go_enter Tryd.func42, Tryd.ntmps42
  go_wp2
  go_ret
  exact ⟨rfl, rfl⟩

/-- A row that went on by h: w1, the world ahead of the stores. -/
def GoneOn (r n : Nat) (g h : HistV) (gp gn : Value) (w w' : World) : Prop :=
  ∃ p' n' w1, HRow w' r (n + 1) h p' n' ∧ Mine w w1 28 p' (uvals h.pl) ∧ Mine w w1 28 n' (uvals h.nl) ∧ HRow w1 r n g gp gn ∧ Kept (fun k => k = r) w1 w'

set_option maxHeartbeats 2000000 in
theorem hgoOn_any (r n : Nat) (g h : HistV) (gp gn pv nv : Value) (w : World) (hr : HRow w r n g gp gn) (ha : HistAt w h pv nv) (hn : n ≤ 1000000) (hp : h.pl.length ≤ 1000000) (hnn : h.nl.length ≤ 1000000) :
    Calls Tryd.prog 68 #[.pointer (some ⟨r, 0, none⟩), histV h pv nv] w fun e w' => e = .returned (.tuple #[]) ∧ GoneOn r n g h gp gn w w' := by
  obtain ⟨⟨ao, c, rfl⟩, bo, d, rfl⟩ := ha.sl
  obtain ⟨sc, ze, po, pl, no, nl⟩ := h
  have hcl := fun w' (k : Kept (fun _ => False) w w') => hclone_any ⟨sc, ze, po, pl, no, nl⟩ _ _ w' (ha.on k) hp hnn
  unfold histV at hcl ⊢
  simp only at hp hnn ha hcl ⊢
  have HCL := Lib.hid hcl
  have HR := Lib.hid hr
  obtain ⟨w0, hw0⟩ : ∃ w0, w0 = w.alloc (.cells #[.int .i64 sc, .int .u64 (ze : Int), .int .i64 po, .slice ao pl.length c, .int .i64 no, .slice bo nl.length d] 62) := ⟨_, rfl⟩
  have HB := Lib.hid (show HistBox w0 w.heap.size ⟨sc, ze, po, pl, no, nl⟩ (.slice ao pl.length c) (.slice bo nl.length d) by rw [hw0]; exact heap_alloc_new w _)
  have HK := Lib.hid (show Kept (fun _ => False) w w0 by rw [hw0]; exact (Kept.refl _ _).alloc _)
  have HW0 := Lib.hid hw0
  obtain ⟨q, hq⟩ : ∃ q, q = w.heap.size := ⟨_, rfl⟩
  have HQ := Lib.hid hq
  rw [← hq] at HB
  have nw : IntKind.i64.wrap ((n : Int) + 1) = (n : Int) + 1 := IntWalk.i64_in _ ⟨by omega, by omega⟩
  have HNC := Lib.hid (show ((n + 1 : Nat) : Int) = (n : Int) + 1 by omega)
  clear ha hp hnn hw0 hq hcl hr hn
  obtain ⟨x0, x1, x2, x3, x4, x5⟩ := HB.out.c
  simp only at x0 x1 x2 x3 x4 x5
  go_enter Tryd.func68, Tryd.ntmps68
  go_upto_region 1 with fail
  rw [← HW0.out, ← HQ.out]
  go_wp2_with fail
  refine (HCL.out w0 HK.out).mono ?_
  rintro e w1 ⟨p', n', rfl, m1, m2⟩
  obtain ⟨a1, c1, rfl⟩ := m1.slice
  obtain ⟨a2, c2, rfl⟩ := m2.slice
  rw [uvals_length] at m1 m2 ⊢
  rw [uvals_length]
  have HM1 := Lib.hid (m1.down HK.out)
  have HM2 := Lib.hid (m2.down HK.out)
  have HR1 := Lib.hid (HR.out.same (HK.out.trans m1.kept) (fun x => x))
  clear m1 m2 x0 x1 x2 x3 x4 x5
  obtain ⟨y0, y1, y2, y3, y4, y5, y6⟩ := HR1.out.c
  have f1 := HR1.out.f 1
  have f2 := HR1.out.f 2
  have f3 := HR1.out.f 3
  have f4 := HR1.out.f 4
  have f5 := HR1.out.f 5
  have f6 := HR1.out.f 6
  go_upto_region 2 with fail
  have HR2 := Lib.hid (HR1.out.set ⟨sc, ze, po, pl, no, nl⟩ (.slice a1 pl.length c1) (.slice a2 nl.length c2))
  have hk2 := setHR_kept w1 r (.int .i64 sc) (.int .u64 (ze : Int)) (.int .i64 po) (.slice a1 pl.length c1) (.int .i64 no) (.slice a2 nl.length c2)
  simp only at HR2
  obtain ⟨w2, hw2⟩ : ∃ w', w' = setHR w1 r (.int .i64 sc) (.int .u64 (ze : Int)) (.int .i64 po) (.slice a1 pl.length c1) (.int .i64 no) (.slice a2 nl.length c2) := ⟨_, rfl⟩
  rw [← hw2] at HR2 hk2
  unfold setHR at hw2
  rw [← hw2]
  have HK2 := Lib.hid hk2
  clear hw2 hk2 y0 y1 y2 y3 y4 y5 y6 f1 f2 f3 f4 f5 f6
  obtain ⟨y0, _⟩ := HR2.out.c
  have f0 := HR2.out.f 0
  go_wp2
  go_end0
  refine ⟨rfl, .slice a1 pl.length c1, .slice a2 nl.length c2, w1, ?_, HM1.out, HM2.out, HR1.out, HK2.out.setCell (p := ⟨r, 0, none⟩) (fun _ => rfl) _⟩
  have := HR2.out.setN (n + 1)
  rw [HNC.out] at this
  exact this
end Go.Proofs.YtjpnfadmblmjbaaDoor
