/- Layer 16: awake (written by tools/gen_XOE.py). -/
import Derived.Test.YtiiibhdohlpodaaOY
import Derived.Test.YtiiibhdohlpodaaOD
namespace Go.Proofs.Ytiiibhdohlpodaa
open Go.RowKit
attribute [local go_sem ↓] Go.wp_at_zero Go.wp_at_succ

/-- awake's point. -/
def awY (start time whole : Int) : Pnt := ⟨{ data := #[120] }, [], 1, 2, false, start, time, whole, 0, 0, zeroHV, 0⟩
theorem awY_at (w : World) (a t v : Int) : PntAt w (awY a t v) none 0 (.slice none 0 0) (.slice none 0 0) :=
  ⟨fun h => absurd h (Nat.lt_irrefl 0), Nat.le_refl _, ⟨SlAt.ofOwn (base := 0) (e := 25) (World.ownsRow_nil _ _ _ _), SlAt.ofOwn (base := 0) (e := 25) (World.ownsRow_nil _ _ _ _)⟩⟩
theorem awY_light (a t v : Int) : (awY a t v).light := ⟨show 1 ≤ 1000 by decide, Nat.zero_le _, fun p hp => (by cases hp), Nat.zero_le _, Nat.zero_le _⟩
theorem awY_ok {a t v : Int} (ha : I64 a) (ht : I64 t) (hv : I64 v) : (awY a t v).ok :=
  ⟨show I64 1 by unfold I64; omega, show I64 2 by unfold I64; omega, ha, ht, hv, show (0 : Int) ≤ 0 ∧ (0 : Int) ≤ 18446744073709551615 by omega, show (0 : Int) ≤ 0 ∧ (0 : Int) ≤ 18446744073709551615 by omega, zeroHV_ok, show I64 0 by unfold I64; omega⟩
theorem ay_step1 : stepC zeroSt (awY 0 10 5) = 0 := by kernel_rfl
theorem ay_out1 : outC zeroSt (awY 0 10 5) = { awY 0 10 5 with temp := 1, flags := 1 } := by kernel_rfl
theorem ay_next1 (sp sn : Value) (w : World) : Calls Try.prog 23 #[.agg (stC zeroSt sp sn), .agg (pntC (awY 0 10 5) (.slice none 0 0) (.slice none 0 0) (.slice none 0 0)), .int .i64 10] w fun e w' =>
    ∃ NS CY tp tn a b c m n k, e = .returned (.tuple #[.agg NS, .agg CY, .int .i64 0]) ∧ NS = stC (stOf { awY 0 10 5 with temp := 1, flags := 1 }) tp tn ∧ (tp.oneCell' = true ∧ tn.oneCell' = true) ∧ CY = pntC { awY 0 10 5 with temp := 1, flags := 1 } (.slice a 0 m) (.slice b 0 n) (.slice c 0 k) ∧ Kept (fun _ => False) w w' := by
  refine (nextC_any zeroSt sp sn (awY 0 10 5) none none none 0 0 0 10 w (awY_at w _ _ _) (awY_ok (by unfold I64; decide) (by unfold I64; decide) (by unfold I64; decide)) (awY_light _ _ _) rfl).mono ?_
  rintro e w' ⟨tp, tn, v, rfl, h1, h2⟩
  unfold nextCS nextCP at *
  rw [ay_step1, if_pos rfl] at *
  rw [ay_out1] at h2 ⊢
  have hk := h2.kept
  obtain ⟨a, b, c, m, n, k, rfl, _⟩ := h2
  exact ⟨_, _, tp, tn, a, b, c, m, n, k, rfl, rfl, h1, rfl, hk⟩
theorem ay_step2 : stepC (stOf { awY 0 10 5 with temp := 1, flags := 1 }) (awY 10 20 3) = 0 := by kernel_rfl
theorem ay_out2 : outC (stOf { awY 0 10 5 with temp := 1, flags := 1 }) (awY 10 20 3) = { awY 10 20 3 with temp := 1, whole := 8, start := 0 } := by kernel_rfl
theorem ay_next2 (sp sn : Value) (w : World) : Calls Try.prog 23 #[.agg (stC (stOf { awY 0 10 5 with temp := 1, flags := 1 }) sp sn), .agg (pntC (awY 10 20 3) (.slice none 0 0) (.slice none 0 0) (.slice none 0 0)), .int .i64 10] w fun e w' =>
    ∃ NS CY tp tn a b c m n k, e = .returned (.tuple #[.agg NS, .agg CY, .int .i64 0]) ∧ NS = stC (stOf { awY 10 20 3 with temp := 1, whole := 8, start := 0 }) tp tn ∧ (tp.oneCell' = true ∧ tn.oneCell' = true) ∧ CY = pntC { awY 10 20 3 with temp := 1, whole := 8, start := 0 } (.slice a 0 m) (.slice b 0 n) (.slice c 0 k) ∧ Kept (fun _ => False) w w' := by
  refine (nextC_any (stOf { awY 0 10 5 with temp := 1, flags := 1 }) sp sn (awY 10 20 3) none none none 0 0 0 10 w (awY_at w _ _ _) (awY_ok (by unfold I64; decide) (by unfold I64; decide) (by unfold I64; decide)) (awY_light _ _ _) rfl).mono ?_
  rintro e w' ⟨tp, tn, v, rfl, h1, h2⟩
  unfold nextCS nextCP at *
  rw [ay_step2, if_pos rfl] at *
  rw [ay_out2] at h2 ⊢
  have hk := h2.kept
  obtain ⟨a, b, c, m, n, k, rfl, _⟩ := h2
  exact ⟨_, _, tp, tn, a, b, c, m, n, k, rfl, rfl, h1, rfl, hk⟩
theorem ay_step3 : stepC (stOf { awY 10 20 3 with temp := 1, whole := 8, start := 0 }) (awY 25 30 2) = 0 := by kernel_rfl
theorem ay_out3 : outC (stOf { awY 10 20 3 with temp := 1, whole := 8, start := 0 }) (awY 25 30 2) = { awY 25 30 2 with temp := 1, flags := 8 } := by kernel_rfl
theorem ay_next3 (sp sn : Value) (w : World) : Calls Try.prog 23 #[.agg (stC (stOf { awY 10 20 3 with temp := 1, whole := 8, start := 0 }) sp sn), .agg (pntC (awY 25 30 2) (.slice none 0 0) (.slice none 0 0) (.slice none 0 0)), .int .i64 10] w fun e w' =>
    ∃ NS CY tp tn a b c m n k, e = .returned (.tuple #[.agg NS, .agg CY, .int .i64 0]) ∧ NS = stC (stOf { awY 25 30 2 with temp := 1, flags := 8 }) tp tn ∧ (tp.oneCell' = true ∧ tn.oneCell' = true) ∧ CY = pntC { awY 25 30 2 with temp := 1, flags := 8 } (.slice a 0 m) (.slice b 0 n) (.slice c 0 k) ∧ Kept (fun _ => False) w w' := by
  refine (nextC_any (stOf { awY 10 20 3 with temp := 1, whole := 8, start := 0 }) sp sn (awY 25 30 2) none none none 0 0 0 10 w (awY_at w _ _ _) (awY_ok (by unfold I64; decide) (by unfold I64; decide) (by unfold I64; decide)) (awY_light _ _ _) rfl).mono ?_
  rintro e w' ⟨tp, tn, v, rfl, h1, h2⟩
  unfold nextCS nextCP at *
  rw [ay_step3, if_pos rfl] at *
  rw [ay_out3] at h2 ⊢
  have hk := h2.kept
  obtain ⟨a, b, c, m, n, k, rfl, _⟩ := h2
  exact ⟨_, _, tp, tn, a, b, c, m, n, k, rfl, rfl, h1, rfl, hk⟩
set_option maxHeartbeats 16000000 in
set_option maxRecDepth 100000 in
theorem awake16_any (w : World) : Calls Try.prog 19 #[] w fun e w' => e = .returned (.bool true) ∧ Kept (fun _ => False) w w' := by
  have HN1 := Lib.hid (fun w => ay_next1 (.slice none 0 0) (.slice none 0 0) w)
  have HN2 := Lib.hid (fun sp sn w => ay_next2 sp sn w)
  have HN3 := Lib.hid (fun sp sn w => ay_next3 sp sn w)
  obtain ⟨g1, hg1⟩ : ∃ g, g = w.heap.size := ⟨_, rfl⟩
  obtain ⟨CP1, hCP1⟩ : ∃ a, a = (pntC (awY 0 10 5) (.slice none 0 0) (.slice none 0 0) (.slice none 0 0)) := ⟨_, rfl⟩
  obtain ⟨w1, hw1⟩ : ∃ w1, w1 = w.alloc (.cells #[.string { data := #[120] }, .slice none 0 0, .int .i64 1, .int .i64 2, .bool false, .int .i64 0, .int .i64 10, .int .i64 5, .int .u64 0, .int .u64 0, .int .i64 0, .int .u64 0, .int .i64 0, .slice none 0 0, .int .i64 0, .slice none 0 0, .int .i64 0] 37) := ⟨_, rfl⟩
  have HK1 : Hid (Kept (fun _ => False) w w1) := Lib.hid (by rw [hw1]; exact (Kept.refl _ _).alloc _)
  have HB1 : Hid (w1.heap[g1]? = some (.cells CP1 37 (0, 0))) := Lib.hid (by rw [hw1, hg1, hCP1]; exact heap_alloc_new w _)
  have HW1 := Lib.hid (And.intro hw1 hg1)
  have HG1 : Hid (w.heap.size ≤ g1) := Lib.hid (by omega)
  have HCP1 := Lib.hid hCP1
  have HI1 : Hid ((Try.prog.info? 37).map (·.size) = some CP1.size) := Lib.hid (point_info.trans (by rw [hCP1]; rfl))
  rw [← hCP1] at HN1
  clear hw1 hg1 hCP1
  go_enter Try.func19, Try.ntmps19
  go_upto_region 2 with fail
  rw [← HW1.out.1, ← HW1.out.2]
  go_wp2_with (first
    | (refine wpList_load_row rfl 37 (.tmp 1) rfl g1 rfl 37 _ (0, 0) _ HB1.out Try.underlying37 rfl HI1.out ?_)
    | fail)
  rw [show (Value.agg #[.bool false, .int .i64 0, .int .i64 0, .int .i64 0, .int .u64 0, .int .u64 0, .int .i64 0, .int .u64 0, .int .i64 0, .slice none 0 0, .int .i64 0, .slice none 0 0]) = .agg (stC zeroSt (.slice none 0 0) (.slice none 0 0)) from rfl]
  refine (HN1.out w1).mono ?_
  rintro e w2 ⟨NS1, CY1, tp1, tn1, a1, b1, c1, m1, n1, k1, rfl, hNS1, ho1, hCY1, kk1⟩
  have HIS1 : Hid ((Try.prog.info? 32).map (·.size) = some NS1.size ∧ (#[.bool false, .int .i64 0, .int .i64 0, .int .i64 0, .int .u64 0, .int .u64 0, .int .i64 0, .int .u64 0, .int .i64 0, .slice none 0 0, .int .i64 0, .slice none 0 0] : Array Value).size = NS1.size ∧ NS1.all (·.oneCell') = true) := Lib.hid (by rw [hNS1]; exact ⟨state_info, rfl, stC_one ho1⟩)
  have HIY1 : Hid ((Try.prog.info? 37).map (·.size) = some CY1.size ∧ (#[.string { data := #[] }, .slice none 0 0, .int .i64 0, .int .i64 0, .bool false, .int .i64 0, .int .i64 0, .int .i64 0, .int .u64 0, .int .u64 0, .int .i64 0, .int .u64 0, .int .i64 0, .slice none 0 0, .int .i64 0, .slice none 0 0, .int .i64 0] : Array Value).size = CY1.size ∧ CY1.all (·.oneCell') = true) := Lib.hid (by rw [hCY1]; exact ⟨point_info, rfl, pntC_one' (ones_slices _ _ _ _ _ _ _ _ _)⟩)
  have HNS1 := Lib.hid hNS1
  have HCY1 := Lib.hid hCY1
  have HKc1 := Lib.hid kk1
  clear hNS1 ho1 hCY1 kk1
  obtain ⟨g2, hg2⟩ : ∃ g, g = w2.heap.size := ⟨_, rfl⟩
  have HG2 := Lib.hid hg2
  clear hg2
  have HA2 : Hid (((w2.alloc (.cells #[.bool false, .int .i64 0, .int .i64 0, .int .i64 0, .int .u64 0, .int .u64 0, .int .i64 0, .int .u64 0, .int .i64 0, .slice none 0 0, .int .i64 0, .slice none 0 0] 32)).alloc (.cells #[.string { data := #[] }, .slice none 0 0, .int .i64 0, .int .i64 0, .bool false, .int .i64 0, .int .i64 0, .int .i64 0, .int .u64 0, .int .u64 0, .int .i64 0, .int .u64 0, .int .i64 0, .slice none 0 0, .int .i64 0, .slice none 0 0, .int .i64 0] 37)).heap[w2.heap.size]? = some (.cells #[.bool false, .int .i64 0, .int .i64 0, .int .i64 0, .int .u64 0, .int .u64 0, .int .i64 0, .int .u64 0, .int .i64 0, .slice none 0 0, .int .i64 0, .slice none 0 0] 32 (0, 0)) ∧ ((w2.alloc (.cells #[.bool false, .int .i64 0, .int .i64 0, .int .i64 0, .int .u64 0, .int .u64 0, .int .i64 0, .int .u64 0, .int .i64 0, .slice none 0 0, .int .i64 0, .slice none 0 0] 32)).alloc (.cells #[.string { data := #[] }, .slice none 0 0, .int .i64 0, .int .i64 0, .bool false, .int .i64 0, .int .i64 0, .int .i64 0, .int .u64 0, .int .u64 0, .int .i64 0, .int .u64 0, .int .i64 0, .slice none 0 0, .int .i64 0, .slice none 0 0, .int .i64 0] 37)).heap[w2.heap.size + 1]? = some (.cells #[.string { data := #[] }, .slice none 0 0, .int .i64 0, .int .i64 0, .bool false, .int .i64 0, .int .i64 0, .int .i64 0, .int .u64 0, .int .u64 0, .int .i64 0, .int .u64 0, .int .i64 0, .slice none 0 0, .int .i64 0, .slice none 0 0, .int .i64 0] 37 (0, 0)) ∧ Kept (fun _ => False) w2 ((w2.alloc (.cells #[.bool false, .int .i64 0, .int .i64 0, .int .i64 0, .int .u64 0, .int .u64 0, .int .i64 0, .int .u64 0, .int .i64 0, .slice none 0 0, .int .i64 0, .slice none 0 0] 32)).alloc (.cells #[.string { data := #[] }, .slice none 0 0, .int .i64 0, .int .i64 0, .bool false, .int .i64 0, .int .i64 0, .int .i64 0, .int .u64 0, .int .u64 0, .int .i64 0, .int .u64 0, .int .i64 0, .slice none 0 0, .int .i64 0, .slice none 0 0, .int .i64 0] 37))) := Lib.hid ⟨((Kept.refl (fun _ => False) _).alloc _).same (heap_alloc_new w2 _) (fun x => x), box_second2 w2 _ _, ((Kept.refl _ _).alloc _).alloc _⟩
  go_upto_region 3 with (first | (refine wpList_store_to rfl 32 (.tmp 2) _ rfl w2.heap.size NS1 rfl rfl 32 #[.bool false, .int .i64 0, .int .i64 0, .int .i64 0, .int .u64 0, .int .u64 0, .int .i64 0, .int .u64 0, .int .i64 0, .slice none 0 0, .int .i64 0, .slice none 0 0] HA2.out.1 HIS1.out.1 HIS1.out.2.1 HIS1.out.2.2 ?_; intro w3 hb3 k3; have HB3 := Lib.hid hb3; have HK3 := Lib.hid k3; clear hb3 k3) | (refine wpList_store_to rfl 37 (.tmp 3) _ rfl (w2.heap.size + 1) CY1 rfl rfl 37 #[.string { data := #[] }, .slice none 0 0, .int .i64 0, .int .i64 0, .bool false, .int .i64 0, .int .i64 0, .int .i64 0, .int .u64 0, .int .u64 0, .int .i64 0, .int .u64 0, .int .i64 0, .slice none 0 0, .int .i64 0, .slice none 0 0, .int .i64 0] (HK3.out.same HA2.out.2.1 (by omega)) HIY1.out.1 HIY1.out.2.1 HIY1.out.2.2 ?_; intro w4 hb4 k4; have HB4 := Lib.hid hb4; have HK4 := Lib.hid k4; clear hb4 k4))
  rw [← HG2.out]
  have HLT : Hid (g1 < g2 ∧ w.heap.size ≤ g2) := Lib.hid (by have h1 := (Array.getElem?_eq_some_iff.1 (HKc1.out.same HB1.out (fun x => x))).1; have := HG2.out; have := HG1.out; omega)
  have HKw4 : Hid (Kept (fun _ => False) w w4) := Lib.hid ((((HK1.out.trans HKc1.out).trans HA2.out.2.2).newer HK3.out (fun i e => by have := HLT.out; have := HG2.out; omega)).newer HK4.out (fun i e => by have := HLT.out; have := HG2.out; omega))
  have HF4 : Hid (w4.heap[g1]? = some (.cells CP1 37 (0, 0)) ∧ w4.heap[g2]? = some (.cells NS1 32 (0, 0)) ∧ w4.heap[g2 + 1]? = some (.cells CY1 37 (0, 0))) := Lib.hid (by have hl := HLT.out; have hg := HG2.out; refine ⟨HK4.out.same (HK3.out.same (HA2.out.2.2.same (HKc1.out.same HB1.out (fun x => x)) (fun x => x)) (by omega)) (by omega), ?_, ?_⟩; exact HK4.out.same (by rw [hg]; exact HB3.out) (by omega); rw [hg]; exact HB4.out)
  clear HA2 HB3 HB4 HK3 HK4 HN1
  obtain ⟨CQ0, hCQ0⟩ : ∃ a, a = (pntC (awY 10 10 5) (.slice none 0 0) (.slice none 0 0) (.slice none 0 0)) := ⟨_, rfl⟩
  obtain ⟨CQ, hCQ⟩ : ∃ a, a = (pntC (awY 10 20 5) (.slice none 0 0) (.slice none 0 0) (.slice none 0 0)) := ⟨_, rfl⟩
  obtain ⟨CP2, hCP2⟩ : ∃ a, a = (pntC (awY 10 20 3) (.slice none 0 0) (.slice none 0 0) (.slice none 0 0)) := ⟨_, rfl⟩
  have HI2 : Hid ((Try.prog.info? 37).map (·.size) = some CP2.size) := Lib.hid (point_info.trans (by rw [hCP2]; rfl))
  have HE0 : Hid (CQ0 = CP1.setIfInBounds 5 (.int .i64 10)) := Lib.hid (by rw [hCQ0, HCP1.out]; rfl)
  have HE1 : Hid (CQ = CQ0.setIfInBounds 6 (.int .i64 20)) := Lib.hid (by rw [hCQ, hCQ0]; rfl)
  have HE2 : Hid (CP2 = CQ.setIfInBounds 7 (.int .i64 3)) := Lib.hid (by rw [hCP2, hCQ]; rfl)
  have HCQ0 := Lib.hid hCQ0
  have HCQ := Lib.hid hCQ
  have HCP2 := Lib.hid hCP2
  rw [← hCP2] at HN2
  clear hCQ0 hCQ hCP2
  have pc : w4.cell? ⟨g1, 5, none⟩ = some (.int .i64 0) := cell_rowZ 5 _ HF4.out.1 (by rw [HCP1.out]; rfl)
  have pf := free_of_rowZ 5 HF4.out.1
  go_upto_region 4 with fail
  clear pc pf
  obtain ⟨w4b, hwn⟩ : ∃ w', w' = w4.setCell ⟨g1, 5, none⟩ (.int .i64 10) := ⟨_, rfl⟩
  have kk : Kept (fun i => i = g1) w4 w4b := by rw [hwn]; exact (Kept.refl (fun k => k = g1) w4).setCell (p := ⟨g1, 5, none⟩) (fun _ => rfl) _
  have hb : w4b.heap[g1]? = some (.cells CQ0 37 (0, 0)) := by rw [hwn, HE0.out]; exact heap_setCell_same _ _ 5 _ _ _ HF4.out.1
  have HF4b := Lib.hid (And.intro hb (And.intro (kk.same HF4.out.2.1 (by have := HLT.out; omega)) (kk.same HF4.out.2.2 (by have := HLT.out; omega))))
  have HKw4b := Lib.hid (HKw4.out.newer kk (fun i e => by have := HG1.out; omega))
  rw [← hwn]
  clear hwn kk hb
  have pc : w4b.cell? ⟨g1, 6, none⟩ = some (.int .i64 10) := cell_rowZ 6 _ HF4b.out.1 (by rw [HCQ0.out]; rfl)
  have pf := free_of_rowZ 6 HF4b.out.1
  go_upto_region 5 with fail
  clear pc pf
  obtain ⟨w5, hwn⟩ : ∃ w', w' = w4b.setCell ⟨g1, 6, none⟩ (.int .i64 20) := ⟨_, rfl⟩
  have kk : Kept (fun i => i = g1) w4b w5 := by rw [hwn]; exact (Kept.refl (fun k => k = g1) w4b).setCell (p := ⟨g1, 6, none⟩) (fun _ => rfl) _
  have hb : w5.heap[g1]? = some (.cells CQ 37 (0, 0)) := by rw [hwn, HE1.out]; exact heap_setCell_same _ _ 6 _ _ _ HF4b.out.1
  have HF5 := Lib.hid (And.intro hb (And.intro (kk.same HF4b.out.2.1 (by have := HLT.out; omega)) (kk.same HF4b.out.2.2 (by have := HLT.out; omega))))
  have HKw5 := Lib.hid (HKw4b.out.newer kk (fun i e => by have := HG1.out; omega))
  rw [← hwn]
  clear hwn kk hb
  have pc : w5.cell? ⟨g1, 7, none⟩ = some (.int .i64 5) := cell_rowZ 7 _ HF5.out.1 (by rw [HCQ.out]; rfl)
  have pf := free_of_rowZ 7 HF5.out.1
  go_upto_region 6 with fail
  clear pc pf
  obtain ⟨w6, hwn⟩ : ∃ w', w' = w5.setCell ⟨g1, 7, none⟩ (.int .i64 3) := ⟨_, rfl⟩
  have kk : Kept (fun i => i = g1) w5 w6 := by rw [hwn]; exact (Kept.refl (fun k => k = g1) w5).setCell (p := ⟨g1, 7, none⟩) (fun _ => rfl) _
  have hb : w6.heap[g1]? = some (.cells CP2 37 (0, 0)) := by rw [hwn, HE2.out]; exact heap_setCell_same _ _ 7 _ _ _ HF5.out.1
  have HF6 := Lib.hid (And.intro hb (And.intro (kk.same HF5.out.2.1 (by have := HLT.out; omega)) (kk.same HF5.out.2.2 (by have := HLT.out; omega))))
  have HKw6 := Lib.hid (HKw5.out.newer kk (fun i e => by have := HG1.out; omega))
  rw [← hwn]
  clear hwn kk hb
  clear HF4 HF4b HF5 HKw4 HKw4b HKw5
  go_wp2_with (first
    | (refine wpList_load_row rfl 32 (.tmp 2) rfl g2 rfl 32 _ (0, 0) _ HF6.out.2.1 Try.underlying32 rfl HIS1.out.1 ?_)
    | (refine wpList_load_row rfl 37 (.tmp 1) rfl g1 rfl 37 _ (0, 0) _ HF6.out.1 Try.underlying37 rfl HI2.out ?_)
    | fail)
  rw [HNS1.out]
  refine (HN2.out _ _ w6).mono ?_
  rintro e w7 ⟨NS2, CY2, tp2, tn2, a2, b2, c2, m2, n2, k2, rfl, hNS2, ho2, hCY2, kk2⟩
  have HIS2 : Hid ((Try.prog.info? 32).map (·.size) = some NS2.size ∧ (#[.bool false, .int .i64 0, .int .i64 0, .int .i64 0, .int .u64 0, .int .u64 0, .int .i64 0, .int .u64 0, .int .i64 0, .slice none 0 0, .int .i64 0, .slice none 0 0] : Array Value).size = NS2.size ∧ NS2.all (·.oneCell') = true) := Lib.hid (by rw [hNS2]; exact ⟨state_info, rfl, stC_one ho2⟩)
  have HIY2 : Hid ((Try.prog.info? 37).map (·.size) = some CY2.size ∧ (#[.string { data := #[] }, .slice none 0 0, .int .i64 0, .int .i64 0, .bool false, .int .i64 0, .int .i64 0, .int .i64 0, .int .u64 0, .int .u64 0, .int .i64 0, .int .u64 0, .int .i64 0, .slice none 0 0, .int .i64 0, .slice none 0 0, .int .i64 0] : Array Value).size = CY2.size ∧ CY2.all (·.oneCell') = true) := Lib.hid (by rw [hCY2]; exact ⟨point_info, rfl, pntC_one' (ones_slices _ _ _ _ _ _ _ _ _)⟩)
  have HNS2 := Lib.hid hNS2
  have HCY2 := Lib.hid hCY2
  have HKc2 := Lib.hid kk2
  clear hNS2 ho2 hCY2 kk2
  rw [← HNS1.out]
  obtain ⟨g5, hg5⟩ : ∃ g, g = w7.heap.size := ⟨_, rfl⟩
  have HG5 := Lib.hid hg5
  clear hg5
  have HA5 : Hid ((w7.alloc (.cells #[.string { data := #[] }, .slice none 0 0, .int .i64 0, .int .i64 0, .bool false, .int .i64 0, .int .i64 0, .int .i64 0, .int .u64 0, .int .u64 0, .int .i64 0, .int .u64 0, .int .i64 0, .slice none 0 0, .int .i64 0, .slice none 0 0, .int .i64 0] 37)).heap[w7.heap.size]? = some (.cells #[.string { data := #[] }, .slice none 0 0, .int .i64 0, .int .i64 0, .bool false, .int .i64 0, .int .i64 0, .int .i64 0, .int .u64 0, .int .u64 0, .int .i64 0, .int .u64 0, .int .i64 0, .slice none 0 0, .int .i64 0, .slice none 0 0, .int .i64 0] 37 (0, 0)) ∧ Kept (fun _ => False) w7 (w7.alloc (.cells #[.string { data := #[] }, .slice none 0 0, .int .i64 0, .int .i64 0, .bool false, .int .i64 0, .int .i64 0, .int .i64 0, .int .u64 0, .int .u64 0, .int .i64 0, .int .u64 0, .int .i64 0, .slice none 0 0, .int .i64 0, .slice none 0 0, .int .i64 0] 37))) := Lib.hid ⟨heap_alloc_new w7 _, (Kept.refl _ _).alloc _⟩
  have HL5 : Hid (g2 + 1 < w7.heap.size) := Lib.hid (Array.getElem?_eq_some_iff.1 (HKc2.out.same HF6.out.2.2 (fun x => x))).1
  go_upto_region 7 with (first | (refine wpList_store_to rfl 32 (.tmp 2) _ rfl g2 NS2 rfl rfl 32 NS1 (HA5.out.2.same (HKc2.out.same HF6.out.2.1 (fun x => x)) (fun x => x)) HIS2.out.1 (HIS1.out.2.1.symm.trans HIS2.out.2.1) HIS2.out.2.2 ?_; intro w8 hb8 k8; have HB8 := Lib.hid hb8; have HK8 := Lib.hid k8; clear hb8 k8) | (refine wpList_store_to rfl 37 (.tmp 5) _ rfl w7.heap.size CY2 rfl rfl 37 #[.string { data := #[] }, .slice none 0 0, .int .i64 0, .int .i64 0, .bool false, .int .i64 0, .int .i64 0, .int .i64 0, .int .u64 0, .int .u64 0, .int .i64 0, .int .u64 0, .int .i64 0, .slice none 0 0, .int .i64 0, .slice none 0 0, .int .i64 0] (HK8.out.same HA5.out.1 (by have := HL5.out; omega)) HIY2.out.1 HIY2.out.2.1 HIY2.out.2.2 ?_; intro w9 hb9 k9; have HB9 := Lib.hid hb9; have HK9 := Lib.hid k9; clear hb9 k9))
  rw [← HG5.out]
  have HL6 : Hid (g2 + 1 < g5) := Lib.hid (by have := HL5.out; have := HG5.out; omega)
  have HKw9 : Hid (Kept (fun _ => False) w w9) := Lib.hid ((((HKw6.out.trans HKc2.out).trans HA5.out.2).newer HK8.out (fun i e => by have := HLT.out; omega)).newer HK9.out (fun i e => by have := HLT.out; have := HL5.out; omega))
  have HF9 : Hid (w9.heap[g1]? = some (.cells CP2 37 (0, 0)) ∧ w9.heap[g2]? = some (.cells NS2 32 (0, 0)) ∧ w9.heap[g2 + 1]? = some (.cells CY1 37 (0, 0)) ∧ w9.heap[g5]? = some (.cells CY2 37 (0, 0))) := Lib.hid (by have hl := HLT.out; have hg := HG5.out; have h6 := HL6.out; refine ⟨HK9.out.same (HK8.out.same (HA5.out.2.same (HKc2.out.same HF6.out.1 (fun x => x)) (fun x => x)) (by omega)) (by omega), HK9.out.same HB8.out (by omega), HK9.out.same (HK8.out.same (HA5.out.2.same (HKc2.out.same HF6.out.2.2 (fun x => x)) (fun x => x)) (by omega)) (by omega), ?_⟩; rw [hg]; exact HB9.out)
  clear HA5 HB8 HB9 HK8 HK9 HN2 HF6 HKw6
  obtain ⟨CR0, hCR0⟩ : ∃ a, a = (pntC (awY 25 20 3) (.slice none 0 0) (.slice none 0 0) (.slice none 0 0)) := ⟨_, rfl⟩
  obtain ⟨CR, hCR⟩ : ∃ a, a = (pntC (awY 25 30 3) (.slice none 0 0) (.slice none 0 0) (.slice none 0 0)) := ⟨_, rfl⟩
  obtain ⟨CP3, hCP3⟩ : ∃ a, a = (pntC (awY 25 30 2) (.slice none 0 0) (.slice none 0 0) (.slice none 0 0)) := ⟨_, rfl⟩
  have HI3 : Hid ((Try.prog.info? 37).map (·.size) = some CP3.size) := Lib.hid (point_info.trans (by rw [hCP3]; rfl))
  have HE30 : Hid (CR0 = CP2.setIfInBounds 5 (.int .i64 25)) := Lib.hid (by rw [hCR0, HCP2.out]; rfl)
  have HE3 : Hid (CR = CR0.setIfInBounds 6 (.int .i64 30)) := Lib.hid (by rw [hCR, hCR0]; rfl)
  have HE4 : Hid (CP3 = CR.setIfInBounds 7 (.int .i64 2)) := Lib.hid (by rw [hCP3, hCR]; rfl)
  have HCR0 := Lib.hid hCR0
  have HCR := Lib.hid hCR
  rw [← hCP3] at HN3
  clear hCR0 hCR hCP3
  have pc : w9.cell? ⟨g1, 5, none⟩ = some (.int .i64 10) := cell_rowZ 5 _ HF9.out.1 (by rw [HCP2.out]; rfl)
  have pf := free_of_rowZ 5 HF9.out.1
  go_upto_region 8 with fail
  clear pc pf
  obtain ⟨w9b, hwn⟩ : ∃ w', w' = w9.setCell ⟨g1, 5, none⟩ (.int .i64 25) := ⟨_, rfl⟩
  have kk : Kept (fun i => i = g1) w9 w9b := by rw [hwn]; exact (Kept.refl (fun k => k = g1) w9).setCell (p := ⟨g1, 5, none⟩) (fun _ => rfl) _
  have hb : w9b.heap[g1]? = some (.cells CR0 37 (0, 0)) := by rw [hwn, HE30.out]; exact heap_setCell_same _ _ 5 _ _ _ HF9.out.1
  have HF9b := Lib.hid (And.intro hb (And.intro (kk.same HF9.out.2.1 (by have := HLT.out; omega)) (And.intro (kk.same HF9.out.2.2.1 (by have := HLT.out; omega)) (kk.same HF9.out.2.2.2 (by have := HLT.out; have := HL6.out; omega)))))
  have HKw9b := Lib.hid (HKw9.out.newer kk (fun i e => by have := HG1.out; omega))
  rw [← hwn]
  clear hwn kk hb
  have pc : w9b.cell? ⟨g1, 6, none⟩ = some (.int .i64 20) := cell_rowZ 6 _ HF9b.out.1 (by rw [HCR0.out]; rfl)
  have pf := free_of_rowZ 6 HF9b.out.1
  go_upto_region 9 with fail
  clear pc pf
  obtain ⟨w10, hwn⟩ : ∃ w', w' = w9b.setCell ⟨g1, 6, none⟩ (.int .i64 30) := ⟨_, rfl⟩
  have kk : Kept (fun i => i = g1) w9b w10 := by rw [hwn]; exact (Kept.refl (fun k => k = g1) w9b).setCell (p := ⟨g1, 6, none⟩) (fun _ => rfl) _
  have hb : w10.heap[g1]? = some (.cells CR 37 (0, 0)) := by rw [hwn, HE3.out]; exact heap_setCell_same _ _ 6 _ _ _ HF9b.out.1
  have HF10 := Lib.hid (And.intro hb (And.intro (kk.same HF9b.out.2.1 (by have := HLT.out; omega)) (And.intro (kk.same HF9b.out.2.2.1 (by have := HLT.out; omega)) (kk.same HF9b.out.2.2.2 (by have := HLT.out; have := HL6.out; omega)))))
  have HKw10 := Lib.hid (HKw9b.out.newer kk (fun i e => by have := HG1.out; omega))
  rw [← hwn]
  clear hwn kk hb
  have pc : w10.cell? ⟨g1, 7, none⟩ = some (.int .i64 3) := cell_rowZ 7 _ HF10.out.1 (by rw [HCR.out]; rfl)
  have pf := free_of_rowZ 7 HF10.out.1
  go_upto_region 10 with fail
  clear pc pf
  obtain ⟨w11, hwn⟩ : ∃ w', w' = w10.setCell ⟨g1, 7, none⟩ (.int .i64 2) := ⟨_, rfl⟩
  have kk : Kept (fun i => i = g1) w10 w11 := by rw [hwn]; exact (Kept.refl (fun k => k = g1) w10).setCell (p := ⟨g1, 7, none⟩) (fun _ => rfl) _
  have hb : w11.heap[g1]? = some (.cells CP3 37 (0, 0)) := by rw [hwn, HE4.out]; exact heap_setCell_same _ _ 7 _ _ _ HF10.out.1
  have HF11 := Lib.hid (And.intro hb (And.intro (kk.same HF10.out.2.1 (by have := HLT.out; omega)) (And.intro (kk.same HF10.out.2.2.1 (by have := HLT.out; omega)) (kk.same HF10.out.2.2.2 (by have := HLT.out; have := HL6.out; omega)))))
  have HKw11 := Lib.hid (HKw10.out.newer kk (fun i e => by have := HG1.out; omega))
  rw [← hwn]
  clear hwn kk hb
  clear HF9 HF9b HF10 HKw9 HKw9b HKw10
  go_wp2_with (first
    | (refine wpList_load_row rfl 32 (.tmp 2) rfl g2 rfl 32 _ (0, 0) _ HF11.out.2.1 Try.underlying32 rfl HIS2.out.1 ?_)
    | (refine wpList_load_row rfl 37 (.tmp 1) rfl g1 rfl 37 _ (0, 0) _ HF11.out.1 Try.underlying37 rfl HI3.out ?_)
    | fail)
  rw [HNS2.out]
  refine (HN3.out _ _ w11).mono ?_
  rintro e w12 ⟨NS3, CY3, tp3, tn3, a3, b3, c3, m3, n3, k3, rfl, hNS3, ho3, hCY3, kk3⟩
  have HIS3 : Hid ((Try.prog.info? 32).map (·.size) = some NS3.size ∧ (#[.bool false, .int .i64 0, .int .i64 0, .int .i64 0, .int .u64 0, .int .u64 0, .int .i64 0, .int .u64 0, .int .i64 0, .slice none 0 0, .int .i64 0, .slice none 0 0] : Array Value).size = NS3.size ∧ NS3.all (·.oneCell') = true) := Lib.hid (by rw [hNS3]; exact ⟨state_info, rfl, stC_one ho3⟩)
  have HIY3 : Hid ((Try.prog.info? 37).map (·.size) = some CY3.size ∧ (#[.string { data := #[] }, .slice none 0 0, .int .i64 0, .int .i64 0, .bool false, .int .i64 0, .int .i64 0, .int .i64 0, .int .u64 0, .int .u64 0, .int .i64 0, .int .u64 0, .int .i64 0, .slice none 0 0, .int .i64 0, .slice none 0 0, .int .i64 0] : Array Value).size = CY3.size ∧ CY3.all (·.oneCell') = true) := Lib.hid (by rw [hCY3]; exact ⟨point_info, rfl, pntC_one' (ones_slices _ _ _ _ _ _ _ _ _)⟩)
  have HNS3 := Lib.hid hNS3
  have HCY3 := Lib.hid hCY3
  have HKc3 := Lib.hid kk3
  clear hNS3 ho3 hCY3 kk3
  rw [← HNS2.out]
  obtain ⟨g7, hg7⟩ : ∃ g, g = w12.heap.size := ⟨_, rfl⟩
  have HG7 := Lib.hid hg7
  clear hg7
  have HA7 : Hid (((w12.alloc (.cells #[.bool false, .int .i64 0, .int .i64 0, .int .i64 0, .int .u64 0, .int .u64 0, .int .i64 0, .int .u64 0, .int .i64 0, .slice none 0 0, .int .i64 0, .slice none 0 0] 32)).alloc (.cells #[.string { data := #[] }, .slice none 0 0, .int .i64 0, .int .i64 0, .bool false, .int .i64 0, .int .i64 0, .int .i64 0, .int .u64 0, .int .u64 0, .int .i64 0, .int .u64 0, .int .i64 0, .slice none 0 0, .int .i64 0, .slice none 0 0, .int .i64 0] 37)).heap[w12.heap.size]? = some (.cells #[.bool false, .int .i64 0, .int .i64 0, .int .i64 0, .int .u64 0, .int .u64 0, .int .i64 0, .int .u64 0, .int .i64 0, .slice none 0 0, .int .i64 0, .slice none 0 0] 32 (0, 0)) ∧ ((w12.alloc (.cells #[.bool false, .int .i64 0, .int .i64 0, .int .i64 0, .int .u64 0, .int .u64 0, .int .i64 0, .int .u64 0, .int .i64 0, .slice none 0 0, .int .i64 0, .slice none 0 0] 32)).alloc (.cells #[.string { data := #[] }, .slice none 0 0, .int .i64 0, .int .i64 0, .bool false, .int .i64 0, .int .i64 0, .int .i64 0, .int .u64 0, .int .u64 0, .int .i64 0, .int .u64 0, .int .i64 0, .slice none 0 0, .int .i64 0, .slice none 0 0, .int .i64 0] 37)).heap[w12.heap.size + 1]? = some (.cells #[.string { data := #[] }, .slice none 0 0, .int .i64 0, .int .i64 0, .bool false, .int .i64 0, .int .i64 0, .int .i64 0, .int .u64 0, .int .u64 0, .int .i64 0, .int .u64 0, .int .i64 0, .slice none 0 0, .int .i64 0, .slice none 0 0, .int .i64 0] 37 (0, 0)) ∧ Kept (fun _ => False) w12 ((w12.alloc (.cells #[.bool false, .int .i64 0, .int .i64 0, .int .i64 0, .int .u64 0, .int .u64 0, .int .i64 0, .int .u64 0, .int .i64 0, .slice none 0 0, .int .i64 0, .slice none 0 0] 32)).alloc (.cells #[.string { data := #[] }, .slice none 0 0, .int .i64 0, .int .i64 0, .bool false, .int .i64 0, .int .i64 0, .int .i64 0, .int .u64 0, .int .u64 0, .int .i64 0, .int .u64 0, .int .i64 0, .slice none 0 0, .int .i64 0, .slice none 0 0, .int .i64 0] 37))) := Lib.hid ⟨((Kept.refl (fun _ => False) _).alloc _).same (heap_alloc_new w12 _) (fun x => x), box_second2 w12 _ _, ((Kept.refl _ _).alloc _).alloc _⟩
  have HL7 : Hid (g5 < w12.heap.size) := Lib.hid (Array.getElem?_eq_some_iff.1 (HKc3.out.same HF11.out.2.2.2 (fun x => x))).1
  go_upto_region 11 with (first | (refine wpList_store_to rfl 32 (.tmp 7) _ rfl w12.heap.size NS3 rfl rfl 32 #[.bool false, .int .i64 0, .int .i64 0, .int .i64 0, .int .u64 0, .int .u64 0, .int .i64 0, .int .u64 0, .int .i64 0, .slice none 0 0, .int .i64 0, .slice none 0 0] HA7.out.1 HIS3.out.1 HIS3.out.2.1 HIS3.out.2.2 ?_; intro w13 hb13 k13; have HK13 := Lib.hid k13; clear hb13 k13) | (refine wpList_store_to rfl 37 (.tmp 8) _ rfl (w12.heap.size + 1) CY3 rfl rfl 37 #[.string { data := #[] }, .slice none 0 0, .int .i64 0, .int .i64 0, .bool false, .int .i64 0, .int .i64 0, .int .i64 0, .int .u64 0, .int .u64 0, .int .i64 0, .int .u64 0, .int .i64 0, .slice none 0 0, .int .i64 0, .slice none 0 0, .int .i64 0] (HK13.out.same HA7.out.2.1 (by omega)) HIY3.out.1 HIY3.out.2.1 HIY3.out.2.2 ?_; intro w14 hb14 k14; have HB14 := Lib.hid hb14; have HK14 := Lib.hid k14; clear hb14 k14))
  rw [← HG7.out]
  have hl := HLT.out
  have hg := HG7.out
  have h6 := HL6.out
  have h7 := HL7.out
  have hz := HG1.out
  have HKw : Hid (Kept (fun _ => False) w w14) := Lib.hid ((((HKw11.out.trans HKc3.out).trans HA7.out.2.2).newer HK13.out (fun i e => by omega)).newer HK14.out (fun i e => by omega))
  have F3 := HK14.out.same (HK13.out.same (HA7.out.2.2.same (HKc3.out.same HF11.out.2.2.1 (fun x => x)) (fun x => x)) (by omega)) (by omega)
  have F5 := HK14.out.same (HK13.out.same (HA7.out.2.2.same (HKc3.out.same HF11.out.2.2.2 (fun x => x)) (fun x => x)) (by omega)) (by omega)
  have F8 := HB14.out
  rw [← hg] at F8
  have x1 : w14.cell? ⟨g2 + 1, 16, none⟩ = some (.int .i64 1) := cell_rowZ 16 _ F3 (by rw [HCY1.out]; rfl)
  have x2 : w14.cell? ⟨g2 + 1, 7, none⟩ = some (.int .i64 5) := cell_rowZ 7 _ F3 (by rw [HCY1.out]; rfl)
  have x3 : w14.cell? ⟨g2 + 1, 3, none⟩ = some (.int .i64 1) := cell_rowZ 3 _ F3 (by rw [HCY1.out]; rfl)
  have x4 : w14.cell? ⟨g5, 16, none⟩ = some (.int .i64 0) := cell_rowZ 16 _ F5 (by rw [HCY2.out]; rfl)
  have x5 : w14.cell? ⟨g5, 7, none⟩ = some (.int .i64 8) := cell_rowZ 7 _ F5 (by rw [HCY2.out]; rfl)
  have x6 : w14.cell? ⟨g5, 5, none⟩ = some (.int .i64 0) := cell_rowZ 5 _ F5 (by rw [HCY2.out]; rfl)
  have x7 : w14.cell? ⟨g7 + 1, 16, none⟩ = some (.int .i64 8) := cell_rowZ 16 _ F8 (by rw [HCY3.out]; rfl)
  have x8 : w14.cell? ⟨g7 + 1, 7, none⟩ = some (.int .i64 2) := cell_rowZ 7 _ F8 (by rw [HCY3.out]; rfl)
  have x9 : w14.cell? ⟨g7 + 1, 5, none⟩ = some (.int .i64 25) := cell_rowZ 5 _ F8 (by rw [HCY3.out]; rfl)
  clear hl hg h6 h7 hz F3 F5 F8 HA7
  go_wp2
  go_ret
  exact ⟨rfl, HKw.out⟩
end Go.Proofs.Ytiiibhdohlpodaa
