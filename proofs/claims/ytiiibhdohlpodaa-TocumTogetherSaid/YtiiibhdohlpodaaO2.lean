/- Layer 15: late, moved, lessInt (written by tools/gen_XO2.py). -/
import Derived.Test.YtiiibhdohlpodaaO1
namespace Go.Proofs.Ytiiibhdohlpodaa
open Go.RowKit
attribute [local go_sem ↓] Go.wp_at_zero Go.wp_at_succ

theorem setRow_heapO (w : World) (g : Nat) (cs cs' : Array Value) (t : TypeId) (fr : Nat × Nat) (h : w.heap[g]? = some (.cells cs t fr)) : (w.setRow g cs').heap[g]? = some (.cells cs' t fr) := setRow_heap w g cs cs' t fr h
theorem late_any (s : StV) (sp sn : Value) (x : Pnt) (av pv nv : Value) (w : World) : Calls Try.prog 61 #[.agg (stC s sp sn), .agg (pntC x av pv nv)] w fun e w' => e = .returned (.int .i64 (lateI s x)) ∧ Kept (fun _ => False) w w' := by
  obtain ⟨q, hq⟩ : ∃ q, q = w.heap.size := ⟨_, rfl⟩
  obtain ⟨CS, hCS⟩ : ∃ a, a = stC s sp sn := ⟨_, rfl⟩
  obtain ⟨CX, hCX⟩ : ∃ a, a = pntC x av pv nv := ⟨_, rfl⟩
  rw [← hCS, ← hCX]
  obtain ⟨w2, hw2⟩ : ∃ w2, w2 = (w.alloc (.cells CS 32)).alloc (.cells CX 37) := ⟨_, rfl⟩
  have k2 : Kept (fun _ => False) w w2 := by rw [hw2]; exact ((Kept.refl _ _).alloc _).alloc _
  have hb1 : w2.heap[q]? = some (.cells CS 32 (0, 0)) := by rw [hw2, hq]; exact ((Kept.refl (fun _ => False) _).alloc _).same (heap_alloc_new w _) (fun x => x)
  have hb2 : w2.heap[q + 1]? = some (.cells CX 37 (0, 0)) := by rw [hw2, hq]; exact box_second2 w _ _
  have s1 : w2.cell? ⟨q, 1, none⟩ = some (.int .i64 s.start) := cell_rowZ 1 _ hb1 (by rw [hCS]; rfl)
  have s2 : w2.cell? ⟨q, 2, none⟩ = some (.int .i64 s.time) := cell_rowZ 2 _ hb1 (by rw [hCS]; rfl)
  have p5 : w2.cell? ⟨q + 1, 5, none⟩ = some (.int .i64 x.start) := cell_rowZ 5 _ hb2 (by rw [hCX]; rfl)
  have p6 : w2.cell? ⟨q + 1, 6, none⟩ = some (.int .i64 x.time) := cell_rowZ 6 _ hb2 (by rw [hCX]; rfl)
  have HK2 := Lib.hid k2
  have HW2 := Lib.hid (And.intro hw2 hq)
  clear hCS hCX k2 hb1 hb2 hw2 hq
  unfold lateI
  by_cases h1 : x.time ≤ s.time
  · rw [if_pos h1]
    have q1 : decide (x.time ≤ s.time) = true := decide_eq_true (h1)
    clear h1
    go_enter Try.func61, Try.ntmps61
    go_upto_region 1 with fail
    rw [← HW2.out.1, ← HW2.out.2]
    go_wp2
    go_ret
    exact ⟨rfl, HK2.out⟩
  rw [if_neg h1]
  have q1 : decide (x.time ≤ s.time) = false := decide_eq_false (h1)
  by_cases h2 : x.start < s.start
  · rw [if_pos (Or.inl h2)]
    have q2 : decide (x.start < s.start) = true := decide_eq_true (h2)
    clear h1 h2
    go_enter Try.func61, Try.ntmps61
    go_upto_region 1 with fail
    rw [← HW2.out.1, ← HW2.out.2]
    go_wp2
    go_ret
    exact ⟨rfl, HK2.out⟩
  have q2 : decide (x.start < s.start) = false := decide_eq_false (h2)
  by_cases h3 : s.start < x.start
  · have q3 : decide (s.start < x.start) = true := decide_eq_true h3
    by_cases h4 : x.start < s.time
    · rw [if_pos (Or.inr ⟨h3, h4⟩)]
      have q4 : decide (x.start < s.time) = true := decide_eq_true (h4)
      clear h1 h2 h3 h4
      go_enter Try.func61, Try.ntmps61
      go_upto_region 1 with fail
      rw [← HW2.out.1, ← HW2.out.2]
      go_wp2
      go_ret
      exact ⟨rfl, HK2.out⟩
    · rw [if_neg (by omega)]
      have q4 : decide (x.start < s.time) = false := decide_eq_false (h4)
      clear h1 h2 h3 h4
      go_enter Try.func61, Try.ntmps61
      go_upto_region 1 with fail
      rw [← HW2.out.1, ← HW2.out.2]
      go_wp2
      go_ret
      exact ⟨rfl, HK2.out⟩
  · rw [if_neg (by omega)]
    have q3 : decide (s.start < x.start) = false := decide_eq_false (h3)
    clear h1 h2 h3
    go_enter Try.func61, Try.ntmps61
    go_upto_region 1 with fail
    rw [← HW2.out.1, ← HW2.out.2]
    go_wp2
    go_ret
    exact ⟨rfl, HK2.out⟩
theorem moved_any (s : StV) (sp sn : Value) (x : Pnt) (av pv nv : Value) (w : World) : Calls Try.prog 63 #[.agg (stC s sp sn), .agg (pntC x av pv nv)] w fun e w' => e = .returned (.int .i64 (movedI s x)) ∧ Kept (fun _ => False) w w' := by
  obtain ⟨q, hq⟩ : ∃ q, q = w.heap.size := ⟨_, rfl⟩
  obtain ⟨CS, hCS⟩ : ∃ a, a = stC s sp sn := ⟨_, rfl⟩
  obtain ⟨CX, hCX⟩ : ∃ a, a = pntC x av pv nv := ⟨_, rfl⟩
  rw [← hCS, ← hCX]
  obtain ⟨w2, hw2⟩ : ∃ w2, w2 = (w.alloc (.cells CS 32)).alloc (.cells CX 37) := ⟨_, rfl⟩
  have k2 : Kept (fun _ => False) w w2 := by rw [hw2]; exact ((Kept.refl _ _).alloc _).alloc _
  have hb1 : w2.heap[q]? = some (.cells CS 32 (0, 0)) := by rw [hw2, hq]; exact ((Kept.refl (fun _ => False) _).alloc _).same (heap_alloc_new w _) (fun x => x)
  have hb2 : w2.heap[q + 1]? = some (.cells CX 37 (0, 0)) := by rw [hw2, hq]; exact box_second2 w _ _
  have s0 : w2.cell? ⟨q, 0, none⟩ = some (.bool s.some) := cell_rowZ 0 _ hb1 (by rw [hCS]; rfl)
  have s1 : w2.cell? ⟨q, 1, none⟩ = some (.int .i64 s.start) := cell_rowZ 1 _ hb1 (by rw [hCS]; rfl)
  have s2 : w2.cell? ⟨q, 2, none⟩ = some (.int .i64 s.time) := cell_rowZ 2 _ hb1 (by rw [hCS]; rfl)
  have p5 : w2.cell? ⟨q + 1, 5, none⟩ = some (.int .i64 x.start) := cell_rowZ 5 _ hb2 (by rw [hCX]; rfl)
  have HK2 := Lib.hid k2
  have HW2 := Lib.hid (And.intro hw2 hq)
  clear hCS hCX k2 hb1 hb2 hw2 hq
  unfold movedI
  by_cases h0 : s.some = false
  · rw [if_pos h0]
    rw [h0] at s0
    clear h0
    go_enter Try.func63, Try.ntmps63
    go_upto_region 1 with fail
    rw [← HW2.out.1, ← HW2.out.2]
    go_wp2
    go_ret
    exact ⟨rfl, HK2.out⟩
  rw [if_neg h0]
  have h0' : s.some = true := by simpa using h0
  rw [h0'] at s0
  by_cases h1 : x.start ≤ s.start
  · rw [if_pos h1]
    have q1 : decide (x.start ≤ s.start) = true := decide_eq_true (h1)
    clear h0 h0' h1
    go_enter Try.func63, Try.ntmps63
    go_upto_region 1 with fail
    rw [← HW2.out.1, ← HW2.out.2]
    go_wp2
    go_ret
    exact ⟨rfl, HK2.out⟩
  rw [if_neg h1]
  have q1 : decide (x.start ≤ s.start) = false := decide_eq_false (h1)
  by_cases h2 : x.start ≤ s.time
  · rw [if_pos h2]
    have q2 : decide (x.start ≤ s.time) = true := decide_eq_true (h2)
    clear h0 h0' h1 h2
    go_enter Try.func63, Try.ntmps63
    go_upto_region 1 with fail
    rw [← HW2.out.1, ← HW2.out.2]
    go_wp2
    go_ret
    exact ⟨rfl, HK2.out⟩
  · rw [if_neg h2]
    have q2 : decide (x.start ≤ s.time) = false := decide_eq_false (h2)
    clear h0 h0' h1 h2
    go_enter Try.func63, Try.ntmps63
    go_upto_region 1 with fail
    rw [← HW2.out.1, ← HW2.out.2]
    go_wp2
    go_ret
    exact ⟨rfl, HK2.out⟩
/-- Three values of one cell each. -/
def Ones (av pv nv : Value) : Prop := av.oneCell' = true ∧ pv.oneCell' = true ∧ nv.oneCell' = true
theorem ones_slices (a b e : Option Addr) (n c m d k f : Nat) : Ones (.slice a n c) (.slice b m d) (.slice e k f) := ⟨rfl, rfl, rfl⟩
theorem pntC_one' {x : Pnt} {av pv nv : Value} (h : Ones av pv nv) : (pntC x av pv nv).all (·.oneCell') = true := by
  obtain ⟨h1, h2, h3⟩ := h
  rw [Array.all_eq_true_iff_forall_mem]
  intro u hu
  simp only [pntC, List.mem_toArray, List.mem_cons, List.not_mem_nil, or_false] at hu
  rcases hu with rfl | rfl | rfl | rfl | rfl | rfl | rfl | rfl | rfl | rfl | rfl | rfl | rfl | rfl | rfl | rfl | rfl <;> first | rfl | assumption
theorem heap_third (w : World) (a b c : Obj) : (((w.alloc a).alloc b).alloc c).heap[w.heap.size + 1 + 1]? = some c := by
  have := heap_alloc_new ((w.alloc a).alloc b) c
  simpa using this
set_option maxHeartbeats 4000000 in
theorem lessInt_any (s : StV) (sp sn : Value) (x : Pnt) (av pv nv : Value) (w : World) (hv : Ones av pv nv) : Calls Try.prog 85 #[.agg (stC s sp sn), .agg (pntC x av pv nv)] w fun e w' => e = .returned (.agg (pntC (lessW s x) av pv nv)) ∧ Kept (fun _ => False) w w' := by
  have HAV := Lib.hid hv
  obtain ⟨q, hq⟩ : ∃ q, q = w.heap.size := ⟨_, rfl⟩
  obtain ⟨CS, hCS⟩ : ∃ a, a = stC s sp sn := ⟨_, rfl⟩
  obtain ⟨CX, hCX⟩ : ∃ a, a = pntC x av pv nv := ⟨_, rfl⟩
  rw [← hCS, ← hCX]
  obtain ⟨w2, hw2⟩ : ∃ w2, w2 = ((w.alloc (.cells CS 32)).alloc (.cells CX 37)).alloc (.cells #[.string { data := #[] }, .slice none 0 0, .int .i64 0, .int .i64 0, .bool false, .int .i64 0, .int .i64 0, .int .i64 0, .int .u64 0, .int .u64 0, .int .i64 0, .int .u64 0, .int .i64 0, .slice none 0 0, .int .i64 0, .slice none 0 0, .int .i64 0] 37) := ⟨_, rfl⟩
  have k2 : Kept (fun _ => False) w w2 := by rw [hw2]; exact (((Kept.refl _ _).alloc _).alloc _).alloc _
  have hb1 : w2.heap[q]? = some (.cells CS 32 (0, 0)) := by rw [hw2, hq]; exact (((Kept.refl (fun _ => False) _).alloc _).alloc _).same (heap_alloc_new w _) (fun x => x)
  have hb2 : w2.heap[q + 1]? = some (.cells CX 37 (0, 0)) := by rw [hw2, hq]; exact ((Kept.refl (fun _ => False) _).alloc _).same (box_second2 w _ _) (fun x => x)
  have hb3 : w2.heap[q + 1 + 1]? = some (.cells #[.string { data := #[] }, .slice none 0 0, .int .i64 0, .int .i64 0, .bool false, .int .i64 0, .int .i64 0, .int .i64 0, .int .u64 0, .int .u64 0, .int .i64 0, .int .u64 0, .int .i64 0, .slice none 0 0, .int .i64 0, .slice none 0 0, .int .i64 0] 37 (0, 0)) := by rw [hw2, hq]; exact heap_third w _ _ _
  have s3 : w2.cell? ⟨q, 3, none⟩ = some (.int .i64 s.whole) := cell_rowZ 3 _ hb1 (by rw [hCS]; rfl)
  have p4 : w2.cell? ⟨q + 1, 4, none⟩ = some (.bool x.mono) := cell_rowZ 4 _ hb2 (by rw [hCX]; rfl)
  have p7 : w2.cell? ⟨q + 1, 7, none⟩ = some (.int .i64 x.whole) := cell_rowZ 7 _ hb2 (by rw [hCX]; rfl)
  have p16 : w2.cell? ⟨q + 1, 16, none⟩ = some (.int .i64 x.flags) := cell_rowZ 16 _ hb2 (by rw [hCX]; rfl)
  have HK2 := Lib.hid k2
  have HW2 := Lib.hid (And.intro hw2 hq)
  have HB2 := Lib.hid hb2
  have HB3 := Lib.hid hb3
  have HCX := Lib.hid hCX
  clear hCS hCX k2 hb1 hb2 hb3 hw2 hq hv
  unfold lessW
  obtain ⟨d, hd⟩ : ∃ d, d = IntKind.i64.wrap (x.whole - s.whole) := ⟨_, rfl⟩
  rw [← hd]
  have hd' := hd.symm
  clear hd
  by_cases h1 : x.mono = true ∧ x.whole < s.whole
  · rw [if_pos h1]
    have q1 : decide (x.whole < s.whole) = true := decide_eq_true h1.2
    have hm := h1.1
    rw [hm] at p4
    clear h1
    have f16 := free_of_rowZ 16 HB2.out
    go_enter Try.func85, Try.ntmps85
    go_upto_region 1 with fail
    rw [← HW2.out.1, ← HW2.out.2]
    go_upto_region 7 with fail
    obtain ⟨w3, hw3⟩ : ∃ w3, w3 = w2.setCell ⟨q + 1, 16, none⟩ (.int .i64 4) := ⟨_, rfl⟩
    have kk : Kept (fun k => k = q + 1) w2 w3 := by rw [hw3]; exact (Kept.refl (fun k => k = q + 1) w2).setCell (p := ⟨q + 1, 16, none⟩) (fun _ => rfl) _
    have hx3 : w3.heap[q + 1]? = some (.cells (CX.setIfInBounds 16 (.int .i64 4)) 37 (0, 0)) := by rw [hw3]; exact heap_setCell_same _ _ 16 _ _ _ HB2.out
    obtain ⟨NX, hNX⟩ : ∃ a, a = (CX.setIfInBounds 16 (.int .i64 4)) := ⟨_, rfl⟩
    rw [← hNX] at hx3
    have hnx : NX = pntC { x with flags := 4 } av pv nv := by rw [hNX, HCX.out]; rfl
    have HIN : Hid ((Try.prog.info? 37).map (·.size) = some NX.size) := Lib.hid (point_info.trans (by rw [hnx]; rfl))
    have HSN : Hid ((#[.string { data := #[] }, .slice none 0 0, .int .i64 0, .int .i64 0, .bool false, .int .i64 0, .int .i64 0, .int .i64 0, .int .u64 0, .int .u64 0, .int .i64 0, .int .u64 0, .int .i64 0, .slice none 0 0, .int .i64 0, .slice none 0 0, .int .i64 0] : Array Value).size = NX.size ∧ NX.all (·.oneCell') = true) := Lib.hid (by rw [hnx]; exact ⟨rfl, pntC_one' HAV.out⟩)
    have HX3 := Lib.hid hx3
    have HR3 := Lib.hid (kk.same HB3.out (by omega))
    have HK3 := Lib.hid (HK2.out.newer kk (fun i e => by have := HW2.out.2; omega))
    have HNX := Lib.hid hnx
    rw [← hw3]
    clear hw3 kk hx3 hNX hnx
    go_wp2_with (first
      | (refine wpList_load_row rfl 37 (.tmp 3) rfl (q + 1) rfl 37 _ (0, 0) _ HX3.out Try.underlying37 rfl HIN.out ?_)
      | (refine wpList_store_row rfl 37 (.tmp 4) _ rfl (q + 1 + 1) NX rfl rfl 37 _ HR3.out HIN.out HSN.out.1 HSN.out.2 ?_)
      | fail)
    refine bodyPost_ret (results_cell_row Try.results85 _ _ (q + 1 + 1) 37 _ (0, 0) _ rfl (setRow_heap _ _ _ _ _ _ HR3.out) Try.underlying37 rfl HIN.out) rfl ?_
    refine ⟨by rw [HNX.out], HK3.out.newer (setRow_keptW _ _ _) (fun i e => by have := HW2.out.2; omega)⟩
  rw [if_neg h1]
  have hq1 : (x.mono = false) ∨ (x.mono = true ∧ decide (x.whole < s.whole) = false) := by cases hm : x.mono with | false => exact Or.inl rfl | true => exact Or.inr ⟨rfl, decide_eq_false (fun h => h1 ⟨hm, h⟩)⟩
  clear h1
  obtain ⟨b2, hb2'⟩ : ∃ b, b = decide (d < x.whole) := ⟨_, rfl⟩
  obtain ⟨b3, hb3'⟩ : ∃ b, b = decide (0 < s.whole) := ⟨_, rfl⟩
  rw [← hb2', ← hb3']
  have q2 := hb2'.symm
  have q3 := hb3'.symm
  clear hb2' hb3'
  by_cases h2 : b2 ≠ b3
  · rw [if_pos h2]
    have q4 : (b2 == b3) = false := by simpa using h2
    clear h2
    rcases hq1 with hm | ⟨hm, q1⟩
    · rw [hm] at p4
      have f16 := free_of_rowZ 16 HB2.out
      go_enter Try.func85, Try.ntmps85
      go_upto_region 1 with fail
      rw [← HW2.out.1, ← HW2.out.2]
      go_upto_region 7 with fail
      obtain ⟨w3, hw3⟩ : ∃ w3, w3 = w2.setCell ⟨q + 1, 16, none⟩ (.int .i64 16) := ⟨_, rfl⟩
      have kk : Kept (fun k => k = q + 1) w2 w3 := by rw [hw3]; exact (Kept.refl (fun k => k = q + 1) w2).setCell (p := ⟨q + 1, 16, none⟩) (fun _ => rfl) _
      have hx3 : w3.heap[q + 1]? = some (.cells (CX.setIfInBounds 16 (.int .i64 16)) 37 (0, 0)) := by rw [hw3]; exact heap_setCell_same _ _ 16 _ _ _ HB2.out
      obtain ⟨NX, hNX⟩ : ∃ a, a = (CX.setIfInBounds 16 (.int .i64 16)) := ⟨_, rfl⟩
      rw [← hNX] at hx3
      have hnx : NX = pntC { x with flags := 16 } av pv nv := by rw [hNX, HCX.out]; rfl
      have HIN : Hid ((Try.prog.info? 37).map (·.size) = some NX.size) := Lib.hid (point_info.trans (by rw [hnx]; rfl))
      have HSN : Hid ((#[.string { data := #[] }, .slice none 0 0, .int .i64 0, .int .i64 0, .bool false, .int .i64 0, .int .i64 0, .int .i64 0, .int .u64 0, .int .u64 0, .int .i64 0, .int .u64 0, .int .i64 0, .slice none 0 0, .int .i64 0, .slice none 0 0, .int .i64 0] : Array Value).size = NX.size ∧ NX.all (·.oneCell') = true) := Lib.hid (by rw [hnx]; exact ⟨rfl, pntC_one' HAV.out⟩)
      have HX3 := Lib.hid hx3
      have HR3 := Lib.hid (kk.same HB3.out (by omega))
      have HK3 := Lib.hid (HK2.out.newer kk (fun i e => by have := HW2.out.2; omega))
      have HNX := Lib.hid hnx
      rw [← hw3]
      clear hw3 kk hx3 hNX hnx
      go_wp2_with (first
        | (refine wpList_load_row rfl 37 (.tmp 3) rfl (q + 1) rfl 37 _ (0, 0) _ HX3.out Try.underlying37 rfl HIN.out ?_)
        | (refine wpList_store_row rfl 37 (.tmp 4) _ rfl (q + 1 + 1) NX rfl rfl 37 _ HR3.out HIN.out HSN.out.1 HSN.out.2 ?_)
        | fail)
      refine bodyPost_ret (results_cell_row Try.results85 _ _ (q + 1 + 1) 37 _ (0, 0) _ rfl (setRow_heap _ _ _ _ _ _ HR3.out) Try.underlying37 rfl HIN.out) rfl ?_
      refine ⟨by rw [HNX.out], HK3.out.newer (setRow_keptW _ _ _) (fun i e => by have := HW2.out.2; omega)⟩
    · rw [hm] at p4
      have f16 := free_of_rowZ 16 HB2.out
      go_enter Try.func85, Try.ntmps85
      go_upto_region 1 with fail
      rw [← HW2.out.1, ← HW2.out.2]
      go_upto_region 7 with fail
      obtain ⟨w3, hw3⟩ : ∃ w3, w3 = w2.setCell ⟨q + 1, 16, none⟩ (.int .i64 16) := ⟨_, rfl⟩
      have kk : Kept (fun k => k = q + 1) w2 w3 := by rw [hw3]; exact (Kept.refl (fun k => k = q + 1) w2).setCell (p := ⟨q + 1, 16, none⟩) (fun _ => rfl) _
      have hx3 : w3.heap[q + 1]? = some (.cells (CX.setIfInBounds 16 (.int .i64 16)) 37 (0, 0)) := by rw [hw3]; exact heap_setCell_same _ _ 16 _ _ _ HB2.out
      obtain ⟨NX, hNX⟩ : ∃ a, a = (CX.setIfInBounds 16 (.int .i64 16)) := ⟨_, rfl⟩
      rw [← hNX] at hx3
      have hnx : NX = pntC { x with flags := 16 } av pv nv := by rw [hNX, HCX.out]; rfl
      have HIN : Hid ((Try.prog.info? 37).map (·.size) = some NX.size) := Lib.hid (point_info.trans (by rw [hnx]; rfl))
      have HSN : Hid ((#[.string { data := #[] }, .slice none 0 0, .int .i64 0, .int .i64 0, .bool false, .int .i64 0, .int .i64 0, .int .i64 0, .int .u64 0, .int .u64 0, .int .i64 0, .int .u64 0, .int .i64 0, .slice none 0 0, .int .i64 0, .slice none 0 0, .int .i64 0] : Array Value).size = NX.size ∧ NX.all (·.oneCell') = true) := Lib.hid (by rw [hnx]; exact ⟨rfl, pntC_one' HAV.out⟩)
      have HX3 := Lib.hid hx3
      have HR3 := Lib.hid (kk.same HB3.out (by omega))
      have HK3 := Lib.hid (HK2.out.newer kk (fun i e => by have := HW2.out.2; omega))
      have HNX := Lib.hid hnx
      rw [← hw3]
      clear hw3 kk hx3 hNX hnx
      go_wp2_with (first
        | (refine wpList_load_row rfl 37 (.tmp 3) rfl (q + 1) rfl 37 _ (0, 0) _ HX3.out Try.underlying37 rfl HIN.out ?_)
        | (refine wpList_store_row rfl 37 (.tmp 4) _ rfl (q + 1 + 1) NX rfl rfl 37 _ HR3.out HIN.out HSN.out.1 HSN.out.2 ?_)
        | fail)
      refine bodyPost_ret (results_cell_row Try.results85 _ _ (q + 1 + 1) 37 _ (0, 0) _ rfl (setRow_heap _ _ _ _ _ _ HR3.out) Try.underlying37 rfl HIN.out) rfl ?_
      refine ⟨by rw [HNX.out], HK3.out.newer (setRow_keptW _ _ _) (fun i e => by have := HW2.out.2; omega)⟩
  · rw [if_neg h2]
    have q4 : (b2 == b3) = true := by simpa using h2
    clear h2
    rcases hq1 with hm | ⟨hm, q1⟩
    · rw [hm] at p4
      have f7 := free_of_rowZ 7 HB2.out
      go_enter Try.func85, Try.ntmps85
      go_upto_region 1 with fail
      rw [← HW2.out.1, ← HW2.out.2]
      go_upto_region 7 with fail
      obtain ⟨w3, hw3⟩ : ∃ w3, w3 = w2.setCell ⟨q + 1, 7, none⟩ (.int .i64 d) := ⟨_, rfl⟩
      have kk : Kept (fun k => k = q + 1) w2 w3 := by rw [hw3]; exact (Kept.refl (fun k => k = q + 1) w2).setCell (p := ⟨q + 1, 7, none⟩) (fun _ => rfl) _
      have hx3 : w3.heap[q + 1]? = some (.cells (CX.setIfInBounds 7 (.int .i64 d)) 37 (0, 0)) := by rw [hw3]; exact heap_setCell_same _ _ 7 _ _ _ HB2.out
      obtain ⟨NX, hNX⟩ : ∃ a, a = (CX.setIfInBounds 7 (.int .i64 d)) := ⟨_, rfl⟩
      rw [← hNX] at hx3
      have hnx : NX = pntC { x with whole := d } av pv nv := by rw [hNX, HCX.out]; rfl
      have HIN : Hid ((Try.prog.info? 37).map (·.size) = some NX.size) := Lib.hid (point_info.trans (by rw [hnx]; rfl))
      have HSN : Hid ((#[.string { data := #[] }, .slice none 0 0, .int .i64 0, .int .i64 0, .bool false, .int .i64 0, .int .i64 0, .int .i64 0, .int .u64 0, .int .u64 0, .int .i64 0, .int .u64 0, .int .i64 0, .slice none 0 0, .int .i64 0, .slice none 0 0, .int .i64 0] : Array Value).size = NX.size ∧ NX.all (·.oneCell') = true) := Lib.hid (by rw [hnx]; exact ⟨rfl, pntC_one' HAV.out⟩)
      have HX3 := Lib.hid hx3
      have HR3 := Lib.hid (kk.same HB3.out (by omega))
      have HK3 := Lib.hid (HK2.out.newer kk (fun i e => by have := HW2.out.2; omega))
      have HNX := Lib.hid hnx
      rw [← hw3]
      clear hw3 kk hx3 hNX hnx
      go_wp2_with (first
        | (refine wpList_load_row rfl 37 (.tmp 3) rfl (q + 1) rfl 37 _ (0, 0) _ HX3.out Try.underlying37 rfl HIN.out ?_)
        | (refine wpList_store_row rfl 37 (.tmp 4) _ rfl (q + 1 + 1) NX rfl rfl 37 _ HR3.out HIN.out HSN.out.1 HSN.out.2 ?_)
        | fail)
      refine bodyPost_ret (results_cell_row Try.results85 _ _ (q + 1 + 1) 37 _ (0, 0) _ rfl (setRow_heap _ _ _ _ _ _ HR3.out) Try.underlying37 rfl HIN.out) rfl ?_
      refine ⟨by rw [HNX.out], HK3.out.newer (setRow_keptW _ _ _) (fun i e => by have := HW2.out.2; omega)⟩
    · rw [hm] at p4
      have f7 := free_of_rowZ 7 HB2.out
      go_enter Try.func85, Try.ntmps85
      go_upto_region 1 with fail
      rw [← HW2.out.1, ← HW2.out.2]
      go_upto_region 7 with fail
      obtain ⟨w3, hw3⟩ : ∃ w3, w3 = w2.setCell ⟨q + 1, 7, none⟩ (.int .i64 d) := ⟨_, rfl⟩
      have kk : Kept (fun k => k = q + 1) w2 w3 := by rw [hw3]; exact (Kept.refl (fun k => k = q + 1) w2).setCell (p := ⟨q + 1, 7, none⟩) (fun _ => rfl) _
      have hx3 : w3.heap[q + 1]? = some (.cells (CX.setIfInBounds 7 (.int .i64 d)) 37 (0, 0)) := by rw [hw3]; exact heap_setCell_same _ _ 7 _ _ _ HB2.out
      obtain ⟨NX, hNX⟩ : ∃ a, a = (CX.setIfInBounds 7 (.int .i64 d)) := ⟨_, rfl⟩
      rw [← hNX] at hx3
      have hnx : NX = pntC { x with whole := d } av pv nv := by rw [hNX, HCX.out]; rfl
      have HIN : Hid ((Try.prog.info? 37).map (·.size) = some NX.size) := Lib.hid (point_info.trans (by rw [hnx]; rfl))
      have HSN : Hid ((#[.string { data := #[] }, .slice none 0 0, .int .i64 0, .int .i64 0, .bool false, .int .i64 0, .int .i64 0, .int .i64 0, .int .u64 0, .int .u64 0, .int .i64 0, .int .u64 0, .int .i64 0, .slice none 0 0, .int .i64 0, .slice none 0 0, .int .i64 0] : Array Value).size = NX.size ∧ NX.all (·.oneCell') = true) := Lib.hid (by rw [hnx]; exact ⟨rfl, pntC_one' HAV.out⟩)
      have HX3 := Lib.hid hx3
      have HR3 := Lib.hid (kk.same HB3.out (by omega))
      have HK3 := Lib.hid (HK2.out.newer kk (fun i e => by have := HW2.out.2; omega))
      have HNX := Lib.hid hnx
      rw [← hw3]
      clear hw3 kk hx3 hNX hnx
      go_wp2_with (first
        | (refine wpList_load_row rfl 37 (.tmp 3) rfl (q + 1) rfl 37 _ (0, 0) _ HX3.out Try.underlying37 rfl HIN.out ?_)
        | (refine wpList_store_row rfl 37 (.tmp 4) _ rfl (q + 1 + 1) NX rfl rfl 37 _ HR3.out HIN.out HSN.out.1 HSN.out.2 ?_)
        | fail)
      refine bodyPost_ret (results_cell_row Try.results85 _ _ (q + 1 + 1) 37 _ (0, 0) _ rfl (setRow_heap _ _ _ _ _ _ HR3.out) Try.underlying37 rfl HIN.out) rfl ?_
      refine ⟨by rw [HNX.out], HK3.out.newer (setRow_keptW _ _ _) (fun i e => by have := HW2.out.2; omega)⟩
end Go.Proofs.Ytiiibhdohlpodaa
