/- Layer 16: late, more on whole sums (written by tools/gen_XOC.py). -/
import Derived.Test.YtiiibhdohlpodaaOA
namespace Go.Proofs.Ytiiibhdohlpodaa
open Go.RowKit
attribute [local go_sem ↓] Go.wp_at_zero Go.wp_at_succ

theorem lateC_any (s : StV) (sp sn : Value) (x : Pnt) (av pv nv : Value) (w : World) : Calls Try.prog 49 #[.agg (stC s sp sn), .agg (pntC x av pv nv)] w fun e w' => e = .returned (.int .i64 (lateC s x)) ∧ Kept (fun _ => False) w w' := by
  obtain ⟨q, hq⟩ : ∃ q, q = w.heap.size := ⟨_, rfl⟩
  obtain ⟨CS, hCS⟩ : ∃ a, a = stC s sp sn := ⟨_, rfl⟩
  obtain ⟨CX, hCX⟩ : ∃ a, a = pntC x av pv nv := ⟨_, rfl⟩
  rw [← hCS, ← hCX]
  obtain ⟨w2, hw2⟩ : ∃ w2, w2 = (w.alloc (.cells CS 32)).alloc (.cells CX 37) := ⟨_, rfl⟩
  have k2 : Kept (fun _ => False) w w2 := by rw [hw2]; exact ((Kept.refl _ _).alloc _).alloc _
  have hb1 : w2.heap[q]? = some (.cells CS 32 (0, 0)) := by rw [hw2, hq]; exact ((Kept.refl (fun _ => False) _).alloc _).same (heap_alloc_new w _) (fun x => x)
  have hb2 : w2.heap[q + 1]? = some (.cells CX 37 (0, 0)) := by rw [hw2, hq]; exact box_second2 w _ _
  have s2 : w2.cell? ⟨q, 2, none⟩ = some (.int .i64 s.time) := cell_rowZ 2 _ hb1 (by rw [hCS]; rfl)
  have p5 : w2.cell? ⟨q + 1, 5, none⟩ = some (.int .i64 x.start) := cell_rowZ 5 _ hb2 (by rw [hCX]; rfl)
  have p6 : w2.cell? ⟨q + 1, 6, none⟩ = some (.int .i64 x.time) := cell_rowZ 6 _ hb2 (by rw [hCX]; rfl)
  have HK2 := Lib.hid k2
  have HW2 := Lib.hid (And.intro hw2 hq)
  clear hCS hCX k2 hb1 hb2 hw2 hq
  unfold lateC
  by_cases h1 : x.time ≤ s.time
  · rw [if_pos h1]
    have q1 : decide (x.time ≤ s.time) = true := decide_eq_true (h1)
    clear h1
    go_enter Try.func49, Try.ntmps49
    go_upto_region 1 with fail
    rw [← HW2.out.1, ← HW2.out.2]
    go_wp2
    go_ret
    exact ⟨rfl, HK2.out⟩
  rw [if_neg h1]
  have q1 : decide (x.time ≤ s.time) = false := decide_eq_false (h1)
  by_cases h2 : x.start < s.time
  · rw [if_pos h2]
    have q2 : decide (x.start < s.time) = true := decide_eq_true (h2)
    clear h1 h2
    go_enter Try.func49, Try.ntmps49
    go_upto_region 1 with fail
    rw [← HW2.out.1, ← HW2.out.2]
    go_wp2
    go_ret
    exact ⟨rfl, HK2.out⟩
  · rw [if_neg h2]
    have q2 : decide (x.start < s.time) = false := decide_eq_false (h2)
    clear h1 h2
    go_enter Try.func49, Try.ntmps49
    go_upto_region 1 with fail
    rw [← HW2.out.1, ← HW2.out.2]
    go_wp2
    go_ret
    exact ⟨rfl, HK2.out⟩
set_option maxHeartbeats 4000000 in
set_option maxRecDepth 100000 in
theorem moreC_any (s : StV) (sp sn : Value) (x : Pnt) (av pv nv : Value) (w : World) (most : Int) (hv : Ones av pv nv) (hk : x.kind = 1) : Calls Try.prog 50 #[.agg (stC s sp sn), .agg (pntC x av pv nv), .int .i64 most] w fun e w' => e = .returned (.agg (pntC (moreW s x) av pv nv)) ∧ Kept (fun _ => False) w w' := by
  have HAV := Lib.hid hv
  obtain ⟨q, hq⟩ : ∃ q, q = w.heap.size := ⟨_, rfl⟩
  obtain ⟨CS, hCS⟩ : ∃ a, a = stC s sp sn := ⟨_, rfl⟩
  obtain ⟨CX, hCX⟩ : ∃ a, a = pntC x av pv nv := ⟨_, rfl⟩
  rw [← hCS, ← hCX]
  obtain ⟨w2, hw2⟩ : ∃ w2, w2 = ((w.alloc (.cells CS 32)).alloc (.cells CX 37)).alloc (.cells #[.string { data := #[] }, .slice none 0 0, .int .i64 0, .int .i64 0, .bool false, .int .i64 0, .int .i64 0, .int .i64 0, .int .u64 0, .int .u64 0, .int .i64 0, .int .u64 0, .int .i64 0, .slice none 0 0, .int .i64 0, .slice none 0 0, .int .i64 0] 37) := ⟨_, rfl⟩
  have k2 : Kept (fun _ => False) w w2 := by rw [hw2]; exact (((Kept.refl _ _).alloc _).alloc _).alloc _
  have hb1 : w2.heap[q]? = some (.cells CS 32 (0, 0)) := by rw [hw2, hq]; exact (((Kept.refl (fun _ => False) _).alloc _).alloc _).same (heap_alloc_new w _) (fun x => x)
  have hb2 : w2.heap[q + 1]? = some (.cells CX 37 (0, 0)) := by rw [hw2, hq]; exact ((Kept.refl (fun _ => False) _).alloc _).same (box_second2 w _ _) (fun x => x)
  have hb3 : w2.heap[q + 1 + 1]? = some (.cells #[.string { data := #[] }, .slice none 0 0, .int .i64 0, .int .i64 0, .bool false, .int .i64 0, .int .i64 0, .int .i64 0, .int .u64 0, .int .u64 0, .int .i64 0, .int .u64 0, .int .i64 0, .slice none 0 0, .int .i64 0, .slice none 0 0, .int .i64 0] 37 (0, 0)) := by rw [hw2, hq]; exact heap_third w _ _ _
  have s1 : w2.cell? ⟨q, 1, none⟩ = some (.int .i64 s.start) := cell_rowZ 1 _ hb1 (by rw [hCS]; rfl)
  have s3 : w2.cell? ⟨q, 3, none⟩ = some (.int .i64 s.whole) := cell_rowZ 3 _ hb1 (by rw [hCS]; rfl)
  have p2 : w2.cell? ⟨q + 1, 2, none⟩ = some (.int .i64 x.kind) := cell_rowZ 2 _ hb2 (by rw [hCX]; rfl)
  have p7 : w2.cell? ⟨q + 1, 7, none⟩ = some (.int .i64 x.whole) := cell_rowZ 7 _ hb2 (by rw [hCX]; rfl)
  have p16 : w2.cell? ⟨q + 1, 16, none⟩ = some (.int .i64 x.flags) := cell_rowZ 16 _ hb2 (by rw [hCX]; rfl)
  have HK2 := Lib.hid k2
  have HW2 := Lib.hid (And.intro hw2 hq)
  have HB2 := Lib.hid hb2
  have HB3 := Lib.hid hb3
  have HB1 := Lib.hid hb1
  have HCX := Lib.hid hCX
  have HCS := Lib.hid hCS
  have HIX : Hid ((Try.prog.info? 37).map (·.size) = some CX.size ∧ CX.size = 17 ∧ CX.all (·.oneCell') = true) := Lib.hid (by rw [hCX]; exact ⟨point_info, rfl, pntC_one' hv⟩)
  rw [hk] at p2
  obtain ⟨d, hd⟩ : ∃ d, d = IntKind.i64.wrap (s.whole + x.whole) := ⟨_, rfl⟩
  have hd' := hd.symm
  obtain ⟨SX, hSX⟩ : ∃ a, a = pntC { x with whole := d } av pv nv := ⟨_, rfl⟩
  have HSX := Lib.hid hSX
  have HSE : Hid (SX = CX.setIfInBounds 7 (.int .i64 d)) := Lib.hid (by rw [hSX, hCX]; rfl)
  obtain ⟨b2, hb2'⟩ : ∃ b, b = decide (d < s.whole) := ⟨_, rfl⟩
  obtain ⟨b3, hb3'⟩ : ∃ b, b = decide (x.whole < 0) := ⟨_, rfl⟩
  have q2 := hb2'.symm
  have q3 := hb3'.symm
  unfold moreW
  rw [← hd, ← hb2', ← hb3']
  clear hCS hCX k2 hb1 hb2 hb3 hw2 hq hv hk hd hSX hb2' hb3'
  obtain ⟨g8, hg8⟩ : ∃ g, g = w2.heap.size := ⟨_, rfl⟩
  have HG8 := Lib.hid hg8
  have HLT : Hid (q + 1 + 1 < g8) := Lib.hid (by rw [hg8]; exact (Array.getElem?_eq_some_iff.1 HB3.out).1)
  clear hg8
  by_cases h2 : b2 ≠ b3
  · rw [if_pos h2]
    have q4 : (b2 == b3) = false := by simpa using h2
    clear h2
    go_enter Try.func50, Try.ntmps50
    go_upto_region 1 with fail
    rw [← HW2.out.1, ← HW2.out.2]
    go_upto_region 3 with (first | (refine wpList_load_row rfl 37 (.tmp 4) rfl (q + 1) rfl 37 _ (0, 0) _ HB2.out Try.underlying37 rfl HIX.out.1 ?_) | (refine wpList_store_box rfl 37 (.tmp 8) _ rfl w2 _ CX 37 rfl rfl rfl HIX.out.1 (by rw [HIX.out.2.1]; rfl) HIX.out.2.2 ?_; intro w3 hb3 k3; have HX8 : Hid (w3.heap[g8]? = some (.cells CX 37 (0, 0))) := Lib.hid (by rw [HG8.out]; exact hb3); have HK23 := Lib.hid k3; clear hb3 k3))
    rw [← HG8.out]
    have p2' := HK23.out.cell p2 (fun x => x)
    have s3' := HK23.out.cell s3 (fun x => x)
    have p7' := HK23.out.cell p7 (fun x => x)
    have c7 : w3.cell? ⟨g8, 7, none⟩ = some (.int .i64 x.whole) := cell_rowZ 7 _ HX8.out (by rw [HCX.out]; rfl)
    have f7 := free_of_rowZ 7 HX8.out
    go_upto_region 6 with fail
    obtain ⟨w4, hw4⟩ : ∃ w', w' = w3.setCell ⟨g8, 7, none⟩ (.int .i64 d) := ⟨_, rfl⟩
    have kk : Kept (fun i => i = g8) w3 w4 := by rw [hw4]; exact (Kept.refl (fun k => k = g8) w3).setCell (p := ⟨g8, 7, none⟩) (fun _ => rfl) _
    have HX4 : Hid (w4.heap[g8]? = some (.cells SX 37 (0, 0))) := Lib.hid (by rw [hw4, HSE.out]; exact heap_setCell_same _ _ 7 _ _ _ HX8.out)
    have HF4 : Hid (w4.heap[q]? = some (.cells CS 32 (0, 0)) ∧ w4.heap[q + 1]? = some (.cells CX 37 (0, 0)) ∧ w4.heap[q + 1 + 1]? = some (.cells #[.string { data := #[] }, .slice none 0 0, .int .i64 0, .int .i64 0, .bool false, .int .i64 0, .int .i64 0, .int .i64 0, .int .u64 0, .int .u64 0, .int .i64 0, .int .u64 0, .int .i64 0, .slice none 0 0, .int .i64 0, .slice none 0 0, .int .i64 0] 37 (0, 0))) := Lib.hid (by have := HLT.out; exact ⟨kk.same (HK23.out.same HB1.out (fun x => x)) (by omega), kk.same (HK23.out.same HB2.out (fun x => x)) (by omega), kk.same (HK23.out.same HB3.out (fun x => x)) (by omega)⟩)
    have HK4 := Lib.hid ((HK2.out.trans HK23.out).newer kk (fun i e => by have := HLT.out; have := HW2.out.2; omega))
    rw [← hw4]
    clear hw4 kk p2' s3' p7' c7 f7 p2 s1 s3 p7 p16
    have s1 : w4.cell? ⟨q, 1, none⟩ = some (.int .i64 s.start) := cell_rowZ 1 _ HF4.out.1 (by rw [HCS.out]; rfl)
    have s3 : w4.cell? ⟨q, 3, none⟩ = some (.int .i64 s.whole) := cell_rowZ 3 _ HF4.out.1 (by rw [HCS.out]; rfl)
    have p7 : w4.cell? ⟨q + 1, 7, none⟩ = some (.int .i64 x.whole) := cell_rowZ 7 _ HF4.out.2.1 (by rw [HCX.out]; rfl)
    have c7 : w4.cell? ⟨g8, 7, none⟩ = some (.int .i64 d) := cell_rowZ 7 _ HX4.out (by rw [HSX.out]; rfl)
    have c16' : w4.cell? ⟨(q + 1), 16, none⟩ = some (.int .i64 x.flags) := cell_rowZ 16 _ HF4.out.2.1 (by rw [HCX.out]; rfl)
    have f16' := free_of_rowZ 16 HF4.out.2.1
    go_upto_region 15 with fail
    obtain ⟨w5, hw5⟩ : ∃ w', w' = w4.setCell ⟨(q + 1), 16, none⟩ (.int .i64 16) := ⟨_, rfl⟩
    have kk : Kept (fun i => i = (q + 1)) w4 w5 := by rw [hw5]; exact (Kept.refl (fun k => k = (q + 1)) w4).setCell (p := ⟨(q + 1), 16, none⟩) (fun _ => rfl) _
    obtain ⟨NX, hNX⟩ : ∃ a, a = pntC { x with flags := 16 } av pv nv := ⟨_, rfl⟩
    have HX5 : Hid (w5.heap[(q + 1)]? = some (.cells NX 37 (0, 0))) := Lib.hid (by rw [hw5, show NX = CX.setIfInBounds 16 (.int .i64 16) by rw [hNX, HCX.out]; rfl]; exact heap_setCell_same _ _ 16 _ _ _ HF4.out.2.1)
    have HR5 := Lib.hid (kk.same HF4.out.2.2 (by have := HLT.out; omega))
    have HK5 := Lib.hid (HK4.out.newer kk (fun i e => by have := HLT.out; have := HW2.out.2; omega))
    have HIN : Hid ((Try.prog.info? 37).map (·.size) = some NX.size) := Lib.hid (point_info.trans (by rw [hNX]; rfl))
    have HSN : Hid ((#[.string { data := #[] }, .slice none 0 0, .int .i64 0, .int .i64 0, .bool false, .int .i64 0, .int .i64 0, .int .i64 0, .int .u64 0, .int .u64 0, .int .i64 0, .int .u64 0, .int .i64 0, .slice none 0 0, .int .i64 0, .slice none 0 0, .int .i64 0] : Array Value).size = NX.size ∧ NX.all (·.oneCell') = true) := Lib.hid (by rw [hNX]; exact ⟨rfl, pntC_one' HAV.out⟩)
    have HNX := Lib.hid hNX
    rw [← hw5]
    clear hw5 kk hNX c16' f16' s1 s3 p7 c7
    go_wp2_with (first
      | (refine wpList_load_row rfl 37 (.tmp 4) rfl (q + 1) rfl 37 _ (0, 0) _ HX5.out Try.underlying37 rfl HIN.out ?_)
      | (refine wpList_store_row rfl 37 (.tmp 6) _ rfl (q + 1 + 1) NX rfl rfl 37 _ HR5.out HIN.out HSN.out.1 HSN.out.2 ?_)
      | fail)
    refine bodyPost_ret (results_cell_row Try.results50 _ _ (q + 1 + 1) 37 _ (0, 0) _ rfl (setRow_heap _ _ _ _ _ _ HR5.out) Try.underlying37 rfl HIN.out) rfl ?_
    refine ⟨by rw [HNX.out], HK5.out.newer (setRow_keptW _ _ _) (fun i e => by have := HW2.out.2; omega)⟩
  · rw [if_neg h2]
    have q4 : (b2 == b3) = true := by simpa using h2
    clear h2
    go_enter Try.func50, Try.ntmps50
    go_upto_region 1 with fail
    rw [← HW2.out.1, ← HW2.out.2]
    go_upto_region 3 with (first | (refine wpList_load_row rfl 37 (.tmp 4) rfl (q + 1) rfl 37 _ (0, 0) _ HB2.out Try.underlying37 rfl HIX.out.1 ?_) | (refine wpList_store_box rfl 37 (.tmp 8) _ rfl w2 _ CX 37 rfl rfl rfl HIX.out.1 (by rw [HIX.out.2.1]; rfl) HIX.out.2.2 ?_; intro w3 hb3 k3; have HX8 : Hid (w3.heap[g8]? = some (.cells CX 37 (0, 0))) := Lib.hid (by rw [HG8.out]; exact hb3); have HK23 := Lib.hid k3; clear hb3 k3))
    rw [← HG8.out]
    have p2' := HK23.out.cell p2 (fun x => x)
    have s3' := HK23.out.cell s3 (fun x => x)
    have p7' := HK23.out.cell p7 (fun x => x)
    have c7 : w3.cell? ⟨g8, 7, none⟩ = some (.int .i64 x.whole) := cell_rowZ 7 _ HX8.out (by rw [HCX.out]; rfl)
    have f7 := free_of_rowZ 7 HX8.out
    go_upto_region 6 with fail
    obtain ⟨w4, hw4⟩ : ∃ w', w' = w3.setCell ⟨g8, 7, none⟩ (.int .i64 d) := ⟨_, rfl⟩
    have kk : Kept (fun i => i = g8) w3 w4 := by rw [hw4]; exact (Kept.refl (fun k => k = g8) w3).setCell (p := ⟨g8, 7, none⟩) (fun _ => rfl) _
    have HX4 : Hid (w4.heap[g8]? = some (.cells SX 37 (0, 0))) := Lib.hid (by rw [hw4, HSE.out]; exact heap_setCell_same _ _ 7 _ _ _ HX8.out)
    have HF4 : Hid (w4.heap[q]? = some (.cells CS 32 (0, 0)) ∧ w4.heap[q + 1]? = some (.cells CX 37 (0, 0)) ∧ w4.heap[q + 1 + 1]? = some (.cells #[.string { data := #[] }, .slice none 0 0, .int .i64 0, .int .i64 0, .bool false, .int .i64 0, .int .i64 0, .int .i64 0, .int .u64 0, .int .u64 0, .int .i64 0, .int .u64 0, .int .i64 0, .slice none 0 0, .int .i64 0, .slice none 0 0, .int .i64 0] 37 (0, 0))) := Lib.hid (by have := HLT.out; exact ⟨kk.same (HK23.out.same HB1.out (fun x => x)) (by omega), kk.same (HK23.out.same HB2.out (fun x => x)) (by omega), kk.same (HK23.out.same HB3.out (fun x => x)) (by omega)⟩)
    have HK4 := Lib.hid ((HK2.out.trans HK23.out).newer kk (fun i e => by have := HLT.out; have := HW2.out.2; omega))
    rw [← hw4]
    clear hw4 kk p2' s3' p7' c7 f7 p2 s1 s3 p7 p16
    have s1 : w4.cell? ⟨q, 1, none⟩ = some (.int .i64 s.start) := cell_rowZ 1 _ HF4.out.1 (by rw [HCS.out]; rfl)
    have s3 : w4.cell? ⟨q, 3, none⟩ = some (.int .i64 s.whole) := cell_rowZ 3 _ HF4.out.1 (by rw [HCS.out]; rfl)
    have p7 : w4.cell? ⟨q + 1, 7, none⟩ = some (.int .i64 x.whole) := cell_rowZ 7 _ HF4.out.2.1 (by rw [HCX.out]; rfl)
    have c7 : w4.cell? ⟨g8, 7, none⟩ = some (.int .i64 d) := cell_rowZ 7 _ HX4.out (by rw [HSX.out]; rfl)
    have c5' : w4.cell? ⟨g8, 5, none⟩ = some (.int .i64 x.start) := cell_rowZ 5 _ HX4.out (by rw [HSX.out]; rfl)
    have f5' := free_of_rowZ 5 HX4.out
    go_upto_region 17 with fail
    obtain ⟨w5, hw5⟩ : ∃ w', w' = w4.setCell ⟨g8, 5, none⟩ (.int .i64 s.start) := ⟨_, rfl⟩
    have kk : Kept (fun i => i = g8) w4 w5 := by rw [hw5]; exact (Kept.refl (fun k => k = g8) w4).setCell (p := ⟨g8, 5, none⟩) (fun _ => rfl) _
    obtain ⟨NX, hNX⟩ : ∃ a, a = pntC { x with whole := d, start := s.start } av pv nv := ⟨_, rfl⟩
    have HX5 : Hid (w5.heap[g8]? = some (.cells NX 37 (0, 0))) := Lib.hid (by rw [hw5, show NX = SX.setIfInBounds 5 (.int .i64 s.start) by rw [hNX, HSX.out]; rfl]; exact heap_setCell_same _ _ 5 _ _ _ HX4.out)
    have HR5 := Lib.hid (kk.same HF4.out.2.2 (by have := HLT.out; omega))
    have HK5 := Lib.hid (HK4.out.newer kk (fun i e => by have := HLT.out; have := HW2.out.2; omega))
    have HIN : Hid ((Try.prog.info? 37).map (·.size) = some NX.size) := Lib.hid (point_info.trans (by rw [hNX]; rfl))
    have HSN : Hid ((#[.string { data := #[] }, .slice none 0 0, .int .i64 0, .int .i64 0, .bool false, .int .i64 0, .int .i64 0, .int .i64 0, .int .u64 0, .int .u64 0, .int .i64 0, .int .u64 0, .int .i64 0, .slice none 0 0, .int .i64 0, .slice none 0 0, .int .i64 0] : Array Value).size = NX.size ∧ NX.all (·.oneCell') = true) := Lib.hid (by rw [hNX]; exact ⟨rfl, pntC_one' HAV.out⟩)
    have HNX := Lib.hid hNX
    rw [← hw5]
    clear hw5 kk hNX c5' f5' s1 s3 p7 c7
    go_wp2_with (first
      | (refine wpList_load_row rfl 37 (.tmp 8) rfl g8 rfl 37 _ (0, 0) _ HX5.out Try.underlying37 rfl HIN.out ?_)
      | (refine wpList_store_row rfl 37 (.tmp 6) _ rfl (q + 1 + 1) NX rfl rfl 37 _ HR5.out HIN.out HSN.out.1 HSN.out.2 ?_)
      | fail)
    refine bodyPost_ret (results_cell_row Try.results50 _ _ (q + 1 + 1) 37 _ (0, 0) _ rfl (setRow_heap _ _ _ _ _ _ HR5.out) Try.underlying37 rfl HIN.out) rfl ?_
    refine ⟨by rw [HNX.out], HK5.out.newer (setRow_keptW _ _ _) (fun i e => by have := HW2.out.2; omega)⟩
end Go.Proofs.Ytiiibhdohlpodaa
