/- Layer 23: a message in its block; the document's Right, Same; clone. -/
import Derived.Test.YtkidbbmdlmnokaaU1
namespace Go.Proofs.Ytkidbbmdlmnokaa
open Go.RowKit
attribute [local go_sem ↓] Go.wp_at_zero Go.wp_at_succ

/-- A message in its block. -/
def MB (w : World) (q : Nat) (ack : Bool) (hv : Int) (v : Value) : Prop := w.heap[q]? = some (.cells #[.bool ack, .int .i64 hv, v] 29 (0, 0))
section
variable {w w' : World} {q : Nat} {ack : Bool} {hv : Int} {v : Value}
theorem MB.c (b : MB w q ack hv v) : w.cell? ⟨q, 0, none⟩ = some (.bool ack) ∧ w.cell? ⟨q, 1, none⟩ = some (.int .i64 hv) ∧ w.cell? ⟨q, 2, none⟩ = some v :=
  ⟨(cell_of_row _ _ 0 _ _ _ b).trans rfl, (cell_of_row _ _ 1 _ _ _ b).trans rfl, (cell_of_row _ _ 2 _ _ _ b).trans rfl⟩
theorem MB.fz (b : MB w q ack hv v) (j : Nat) : w.frozen? ⟨q, j, none⟩ = false := by unfold MB at b; simp [World.frozen?, b]
theorem MB.lt (b : MB w q ack hv v) : q < w.heap.size := (Array.getElem?_eq_some_iff.1 b).1
theorem MB.set2 (b : MB w q ack hv v) (v' : Value) : MB (w.setCell ⟨q, 2, none⟩ v') q ack hv v' := by
  unfold MB at *; simp [World.setCell, Array.getElem?_modify, b]
theorem MB.set1 (b : MB w q ack hv v) (x : Int) : MB (w.setCell ⟨q, 1, none⟩ (.int .i64 x)) q ack x v := by
  unfold MB at *; simp [World.setCell, Array.getElem?_modify, b]
theorem MB.set3 (b : MB w q ack hv v) (ack' : Bool) (hv' : Int) (v' : Value) : MB (((w.setCell ⟨q, 0, none⟩ (.bool ack')).setCell ⟨q, 1, none⟩ (.int .i64 hv')).setCell ⟨q, 2, none⟩ v') q ack' hv' v' := by
  unfold MB at *; simp [World.setCell, Array.getElem?_modify, b]
theorem set3_keptM (w : World) (q : Nat) (x y z : Value) : Kept (fun k => k = q) w (((w.setCell ⟨q, 0, none⟩ x).setCell ⟨q, 1, none⟩ y).setCell ⟨q, 2, none⟩ z) :=
  (((Kept.refl (fun k => k = q) w).setCell (p := ⟨q, 0, none⟩) (fun _ => rfl) x).setCell (p := ⟨q, 1, none⟩) (fun _ => rfl) y).setCell (p := ⟨q, 2, none⟩) (fun _ => rfl) z
end
theorem msg_info : (Try.prog.info? 29).map (·.size) = some 3 := by kernel_rfl
theorem msg_end {fn : Func} {p : Tmp} {a : Act} {P : Ending → World → Prop} {w : World} {q : Nat} {ack : Bool} {hv : Int} {v : Value} (hres : fn.results = #[.cell p 29]) (hp : a.tmps.getD p undef = .pointer (some ⟨q, 0, none⟩)) (hd : a.defers = [])
    (hg : MB w q ack hv v) (h : P (.returned (.agg #[.bool ack, .int .i64 hv, v])) w) : bodyPost Try.prog fn P .ret a w :=
  bodyPost_ret (v := .agg #[.bool ack, .int .i64 hv, v]) (results_cell_row hres _ _ q 29 _ (0, 0) _ hp hg Try.underlying29 rfl msg_info) hd h
theorem msg_end2 {fn : Func} {p t : Tmp} {a : Act} {P : Ending → World → Prop} {w : World} {q : Nat} {ack : Bool} {hv : Int} {v u : Value} (hres : fn.results = #[.cell p 29, .tmp t]) (hp : a.tmps.getD p undef = .pointer (some ⟨q, 0, none⟩)) (hu : a.tmps.getD t undef = u) (hd : a.defers = [])
    (hg : MB w q ack hv v) (h : P (.returned (.tuple #[.agg #[.bool ack, .int .i64 hv, v], u])) w) : bodyPost Try.prog fn P .ret a w := by
  subst hu
  exact bodyPost_ret (v := .tuple #[.agg #[.bool ack, .int .i64 hv, v], a.tmps.getD t undef]) (results_ct hres _ _ q 29 _ (0, 0) _ hp hg Try.underlying29 rfl msg_info) hd h

set_option maxHeartbeats 1000000 in
theorem refRight_any (ack : Bool) (hv : Int) (a : Option Addr) (c : Nat) (b : List Int) (w : World) :
    Calls Try.prog 16 #[.agg #[.bool ack, .int .i64 hv, .slice a b.length c]] w fun e w' => e = .returned (.bool (rightB ⟨ack, hv, b⟩)) ∧ Kept (fun _ => False) w w' := by
  obtain ⟨R, hR⟩ : ∃ R, R = rightB ⟨ack, hv, b⟩ := ⟨_, rfl⟩
  rw [← hR]
  unfold rightB at hR
  dsimp only at hR
  obtain ⟨n, hn⟩ : ∃ n, n = b.length := ⟨_, rfl⟩
  rw [← hn] at hR ⊢
  have HK := Lib.hid ((Kept.refl (fun _ => False) w).alloc (.cells #[.bool ack, .int .i64 hv, .slice a n c] 29))
  have HR := Lib.hid hR
  clear hn hR
  by_cases h0 : hv < 0
  · have HX : Hid (R = false) := Lib.hid (by rw [HR.out]; split <;> exact decide_eq_false (by omega))
    have q0 : decide (hv < (0 : Int)) = true := decide_eq_true h0
    go_enter Try.func16, Try.ntmps16
    go_wp2
    go_ret
    exact ⟨by rw [HX.out]; rfl, HK.out⟩
  have q0 : decide (hv < (0 : Int)) = false := decide_eq_false h0
  by_cases h1 : 4503599627370497 < hv
  · have HX : Hid (R = false) := Lib.hid (by rw [HR.out]; split <;> exact decide_eq_false (by omega))
    have q1 : decide ((4503599627370497 : Int) < hv) = true := decide_eq_true h1
    go_enter Try.func16, Try.ntmps16
    go_wp2
    go_ret
    exact ⟨by rw [HX.out]; rfl, HK.out⟩
  have q1 : decide ((4503599627370497 : Int) < hv) = false := decide_eq_false h1
  by_cases h2 : 65536 < n
  · have HX : Hid (R = false) := Lib.hid (by rw [HR.out]; split <;> exact decide_eq_false (by omega))
    have q2 : (65536 : Int) < (n : Int) := by omega
    have q2' : decide (65536 < n) = true := decide_eq_true h2
    clear h2
    go_enter Try.func16, Try.ntmps16
    go_wp2
    go_ret
    exact ⟨by rw [HX.out]; rfl, HK.out⟩
  have q2 : ¬ (65536 : Int) < (n : Int) := by omega
  have q2' : decide (65536 < n) = false := decide_eq_false h2
  cases ack with
  | true =>
    by_cases h3 : n = 0
    · have HX : Hid (R = true) := Lib.hid (by rw [HR.out, if_pos rfl]; exact decide_eq_true ⟨by omega, by omega, h3⟩)
      have q3 : ((n : Int) == 0) = true := beqT (by omega)
      clear h2 h3
      go_enter Try.func16, Try.ntmps16
      go_wp2
      go_ret
      exact ⟨by rw [HX.out]; rfl, HK.out⟩
    · have HX : Hid (R = false) := Lib.hid (by rw [HR.out, if_pos rfl]; exact decide_eq_false (fun e => h3 e.2.2))
      have q3 : ((n : Int) == 0) = false := beqF (by omega)
      clear h2 h3
      go_enter Try.func16, Try.ntmps16
      go_wp2
      go_ret
      exact ⟨by rw [HX.out]; rfl, HK.out⟩
  | false =>
    by_cases h3 : hv = 0
    · have HX : Hid (R = true) := Lib.hid (by rw [HR.out, if_neg (by decide)]; exact decide_eq_true ⟨h3, by omega⟩)
      have q3 : (hv == 0) = true := beqT h3
      clear h2 h3
      go_enter Try.func16, Try.ntmps16
      go_wp2
      go_ret
      exact ⟨by rw [HX.out]; rfl, HK.out⟩
    · have HX : Hid (R = false) := Lib.hid (by rw [HR.out, if_neg (by decide)]; exact decide_eq_false (fun e => h3 e.1))
      have q3 : (hv == 0) = false := beqF h3
      clear h2 h3
      go_enter Try.func16, Try.ntmps16
      go_wp2
      go_ret
      exact ⟨by rw [HX.out]; rfl, HK.out⟩
theorem strOf_inj {a b : List Int} (ha : ∀ x ∈ a, 0 ≤ x ∧ x < 256) (hb : ∀ x ∈ b, 0 ≤ x ∧ x < 256) (h : strOfNums a = strOfNums b) : a = b := by
  rw [← strB_strOf ha, ← strB_strOf hb, h]
set_option maxHeartbeats 2000000 in
theorem refSame_any (ack : Bool) (hv : Int) (a : Option Addr) (n c : Nat) (b : List Int) (ack2 : Bool) (hv2 : Int) (a2 : Option Addr) (n2 c2 : Nat) (b2 : List Int) (w : World) (h1 : SlAt w (.slice a n c) (u8s b)) (h2 : SlAt w (.slice a2 n2 c2) (u8s b2))
    (hb : ∀ x ∈ b, 0 ≤ x ∧ x < 256) (hb2 : ∀ x ∈ b2, 0 ≤ x ∧ x < 256) :
    Calls Try.prog 18 #[.agg #[.bool ack, .int .i64 hv, .slice a n c], .agg #[.bool ack2, .int .i64 hv2, .slice a2 n2 c2]] w fun e w' => e = .returned (.bool (decide ((⟨ack, hv, b⟩ : Tl) = ⟨ack2, hv2, b2⟩))) ∧ Kept (fun _ => False) w w' := by
  obtain ⟨wa, hwa⟩ : ∃ wa, wa = w.alloc (.cells #[.bool ack, .int .i64 hv, .slice a n c] 29) := ⟨_, rfl⟩
  obtain ⟨q1, hq1⟩ : ∃ q, q = w.heap.size := ⟨_, rfl⟩
  obtain ⟨wb, hwb⟩ : ∃ wb, wb = wa.alloc (.cells #[.bool ack2, .int .i64 hv2, .slice a2 n2 c2] 29) := ⟨_, rfl⟩
  obtain ⟨q2, hq2⟩ : ∃ q, q = wa.heap.size := ⟨_, rfl⟩
  have ka : Kept (fun _ => False) w wa := by rw [hwa]; exact (Kept.refl _ _).alloc _
  have kb : Kept (fun _ => False) wa wb := by rw [hwb]; exact (Kept.refl _ _).alloc _
  have HB1 : Hid (MB wb q1 ack hv (.slice a n c)) := Lib.hid (kb.same (show MB wa q1 ack hv (.slice a n c) by rw [hwa, hq1]; exact heap_alloc_new w _) (fun x => x))
  have HB2 : Hid (MB wb q2 ack2 hv2 (.slice a2 n2 c2)) := Lib.hid (by rw [hwb, hq2]; exact heap_alloc_new wa _)
  have hq2' : q2 = q1 + 1 := by rw [hq2, hwa, hq1]; exact Array.size_push ..
  have HW := Lib.hid (show (w.alloc (.cells #[.bool ack, .int .i64 hv, .slice a n c] 29)).alloc (.cells #[.bool ack2, .int .i64 hv2, .slice a2 n2 c2] 29) = wb by rw [hwb, hwa])
  have HQ := Lib.hid (And.intro hq1 hq2')
  have cv1 := run_strI (P := Try.prog) (h1.kept (ka.trans kb) (fun _ _ x => x)) 27 5 9 Try.underlying27 Try.underlying5 Try.underlying9
  have cv2 := run_strI (P := Try.prog) (h2.kept (ka.trans kb) (fun _ _ x => x)) 27 5 9 Try.underlying27 Try.underlying5 Try.underlying9
  have HK := Lib.hid (ka.trans kb)
  obtain ⟨x, hx⟩ : ∃ x, x = strOfNums b := ⟨_, rfl⟩
  obtain ⟨y, hy⟩ : ∃ x, x = strOfNums b2 := ⟨_, rfl⟩
  rw [← hx] at cv1
  rw [← hy] at cv2
  obtain ⟨R, hR⟩ : ∃ R, R = decide ((⟨ack, hv, b⟩ : Tl) = ⟨ack2, hv2, b2⟩) := ⟨_, rfl⟩
  rw [← hR]
  have HR := Lib.hid hR
  have HXY : Hid (x = y → b = b2) := Lib.hid (fun h => strOf_inj hb hb2 (by rw [← hx, ← hy, h]))
  have HYX : Hid (b = b2 → x = y) := Lib.hid (fun h => by rw [hx, hy, h])
  obtain ⟨b10, b11, b12⟩ := HB1.out.c
  obtain ⟨b20, b21, b22⟩ := HB2.out.c
  clear hwa hwb hq1 hq2 hq2' ka kb h1 h2 hb hb2 hx hy hR
  have fin : Calls Try.prog 18 #[.agg #[.bool ack, .int .i64 hv, .slice a n c], .agg #[.bool ack2, .int .i64 hv2, .slice a2 n2 c2]] w fun e w' => e = .returned (.bool R) ∧ w' = wb := by
    by_cases e1 : ack = ack2
    · by_cases e2 : hv = hv2
      · by_cases e3 : x = y
        · have HX : Hid (R = true) := Lib.hid (by rw [HR.out]; exact decide_eq_true (by rw [e1, e2, HXY.out e3]))
          have p1 : (ack == ack2) = true := by simp [e1]
          have p2 : (hv == hv2) = true := by simp [e2]
          have p3 : (x.toList == y.toList) = true := by simp [e3]
          clear e1 e2 e3
          go_enter Try.func18, Try.ntmps18
          go_upto_region 1 with fail
          rw [HW.out, ← HQ.out.1, ← HQ.out.2]
          go_wp2
          go_ret
          exact ⟨by rw [HX.out]; rfl, rfl⟩
        · have HX : Hid (R = false) := Lib.hid (by rw [HR.out]; exact decide_eq_false (fun e => e3 (HYX.out (by injection e))))
          have p1 : (ack == ack2) = true := by simp [e1]
          have p2 : (hv == hv2) = true := by simp [e2]
          have p3 : (x.toList == y.toList) = false := beq_eq_false_iff_ne.2 (fun e => e3 (bl_inj (by unfold bl; rw [e])))
          clear e1 e2 e3
          go_enter Try.func18, Try.ntmps18
          go_upto_region 1 with fail
          rw [HW.out, ← HQ.out.1, ← HQ.out.2]
          go_wp2
          go_ret
          exact ⟨by rw [HX.out]; rfl, rfl⟩
      · have HX : Hid (R = false) := Lib.hid (by rw [HR.out]; exact decide_eq_false (fun e => e2 (by injection e)))
        have p1 : (ack == ack2) = true := by simp [e1]
        have p2 : (hv == hv2) = false := beqF e2
        clear e1 e2
        go_enter Try.func18, Try.ntmps18
        go_upto_region 1 with fail
        rw [HW.out, ← HQ.out.1, ← HQ.out.2]
        go_wp2
        go_ret
        exact ⟨by rw [HX.out]; rfl, rfl⟩
    · have HX : Hid (R = false) := Lib.hid (by rw [HR.out]; exact decide_eq_false (fun e => e1 (by injection e)))
      have p1 : (ack == ack2) = false := by simp [e1]
      clear e1
      go_enter Try.func18, Try.ntmps18
      go_upto_region 1 with fail
      rw [HW.out, ← HQ.out.1, ← HQ.out.2]
      go_wp2
      go_ret
      exact ⟨by rw [HX.out]; rfl, rfl⟩
  refine fin.mono ?_
  rintro e w' ⟨rfl, rfl⟩
  exact ⟨rfl, HK.out⟩
end Go.Proofs.Ytkidbbmdlmnokaa
