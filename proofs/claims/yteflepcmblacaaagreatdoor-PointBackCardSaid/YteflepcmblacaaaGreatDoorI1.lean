/- Layer 12: a point's value, its own value, its kind and times. -/
import Derived.Test.YteflepcmblacaaaGreatDoorI0
namespace Go.Proofs.YteflepcmblacaaaGreatDoor
open Go.RowKit
attribute [local go_sem ↓] Go.wp_at_zero Go.wp_at_succ

/-- Cells of a block, written one behind the other. -/
def setRow (w : World) (q : Nat) : Nat → List Value → World
  | _, [] => w
  | i, v :: vs => setRow (w.setCell ⟨q, i, none⟩ v) q (i + 1) vs
theorem setRow_box {q : Nat} {T : TypeId} : ∀ (vs : List Value) (i : Nat) (w : World) (cs : Array Value), w.heap[q]? = some (.cells cs T (0, 0)) → cs.size = i + vs.length →
    (setRow w q i vs).heap[q]? = some (.cells (cs.toList.take i ++ vs).toArray T (0, 0))
  | [], i, w, cs, h, e => by
    unfold setRow
    rw [h, List.append_nil, List.take_of_length_le (by rw [Array.length_toList, e]; simp)]
  | v :: vs, i, w, cs, h, e => by
    unfold setRow
    rw [List.length_cons] at e
    have h1 := heap_setCell_same _ _ i _ _ v h
    rw [setRow_box vs (i + 1) _ _ h1 (by simp; omega)]
    congr 2
    have : i < cs.toList.length := by rw [Array.length_toList]; omega
    rw [Array.toList_setIfInBounds, List.take_add_one, List.take_set_of_le (Nat.le_refl _), List.getElem?_set_self this]
    simp
theorem setRow_kept {q : Nat} : ∀ (vs : List Value) (i : Nat) (w : World), Kept (fun k => k = q) w (setRow w q i vs)
  | [], _, _ => Kept.refl _ _
  | v :: vs, i, w => by
    unfold setRow
    exact ((Kept.refl (fun k => k = q) w).setCell (p := ⟨q, i, none⟩) (fun _ => rfl) v).trans (setRow_kept vs (i + 1) _)
theorem setRow_new {w w1 : World} {q : Nat} (k : Kept (fun _ => False) w w1) (hq : w.heap.size ≤ q) (vs : List Value) : Kept (fun _ => False) w (setRow w1 q 0 vs) :=
  k.newer (setRow_kept vs 0 w1) (fun j e => by omega)
theorem box_second (w : World) (o1 o2 o3 : Obj) : (((w.alloc o1).alloc o2).alloc o3).heap[w.heap.size + 1]? = some o2 := by
  have h := heap_alloc_new (w.alloc o1) o2
  have e : (w.alloc o1).heap.size = w.heap.size + 1 := by simp
  rw [e] at h
  exact ((Kept.refl (fun _ => False) _).alloc o3).same h (fun x => x)
theorem box_second2 (w : World) (o1 o2 : Obj) : ((w.alloc o1).alloc o2).heap[w.heap.size + 1]? = some o2 := by
  have h := heap_alloc_new (w.alloc o1) o2
  have e : (w.alloc o1).heap.size = w.heap.size + 1 := by simp
  rw [e] at h
  exact h
/-- A point's value, as the program tells it. -/
def valC (x : Pnt) : List Value := [.int .i64 x.whole, .int .u64 x.re, .int .u64 x.im, .int .i64 x.h.sc, .int .u64 (x.h.ze : Int), .int .i64 x.h.po, .int .i64 x.h.no, .int .i64 (x.h.pl.length : Nat), .int .i64 (x.h.nl.length : Nat)]
theorem val_info : (Tryz.prog.info? 62).map (·.size) = some 9 := by kernel_rfl
set_option maxRecDepth 100000 in
set_option maxHeartbeats 2000000 in
theorem valueOf_any (x : Pnt) (av : Value) (pa na : Option Addr) (pc nc : Nat) (w : World) :
    Calls Tryz.prog 29 #[pntV x av (.slice pa x.h.pl.length pc) (.slice na x.h.nl.length nc)] w fun e w' => e = .returned (.agg (valC x).toArray) ∧ Kept (fun _ => False) w w' := by
  unfold pntV pntC valC
  obtain ⟨name, L, kind, temp, mono, start, time, whole, re, im, ⟨sc, ze, po, pl, no, nl⟩, flags⟩ := x
  dsimp only
  obtain ⟨m, hm⟩ : ∃ m, m = pl.length := ⟨_, rfl⟩
  obtain ⟨n, hn⟩ : ∃ n, n = nl.length := ⟨_, rfl⟩
  rw [← hm, ← hn]
  obtain ⟨w3, hw3⟩ : ∃ w3, w3 = (((w.alloc (.cells #[.string name, av, .int .i64 kind, .int .i64 temp, .bool mono, .int .i64 start, .int .i64 time, .int .i64 whole, .int .u64 re, .int .u64 im, .int .i64 sc, .int .u64 (ze : Int), .int .i64 po, .slice pa m pc, .int .i64 no, .slice na n nc, .int .i64 flags] 30)).alloc
    (.cells #[.int .i64 whole, .int .u64 re, .int .u64 im, .int .i64 sc, .int .u64 (ze : Int), .int .i64 po, .int .i64 no, .int .i64 (m : Int), .int .i64 (n : Int)] 62)).alloc (.cells #[.int .i64 sc, .int .u64 (ze : Int), .int .i64 po, .slice pa m pc, .int .i64 no, .slice na n nc] 28)) := ⟨_, rfl⟩
  have HB : Hid (w3.heap[w.heap.size + 1]? = some (.cells #[.int .i64 whole, .int .u64 re, .int .u64 im, .int .i64 sc, .int .u64 (ze : Int), .int .i64 po, .int .i64 no, .int .i64 (m : Int), .int .i64 (n : Int)] 62 (0, 0))) := Lib.hid (by rw [hw3]; exact box_second w _ _ _)
  have HK : Hid (Kept (fun _ => False) w w3) := Lib.hid (by rw [hw3]; exact (((Kept.refl _ _).alloc _).alloc _).alloc _)
  have HW := Lib.hid hw3
  clear hm hn hw3
  go_enter Tryz.func29, Tryz.ntmps29
  go_wp2
  rw [← HW.out]
  exact bodyPost_ret (results_cell_row Tryz.results29 _ _ (w.heap.size + 1) 62 _ (0, 0) _ rfl HB.out Tryz.underlying62 rfl val_info) rfl
    ⟨rfl, HK.out⟩
set_option maxRecDepth 100000 in
set_option maxHeartbeats 1000000 in
theorem isSum_any (k : Int) (w : World) : Calls Tryz.prog 27 #[.int .i64 k] w fun e w' => e = .returned (.bool (decide (k = 1 ∨ k = 2))) ∧ w = w' := by
  by_cases h1 : k = 1
  · have q1 : (k == 1) = true := beqT h1
    have HB : Hid (decide (k = 1 ∨ k = 2) = true) := Lib.hid (decide_eq_true (.inl h1))
    rw [HB.out]
    clear h1
    go_enter Tryz.func27, Tryz.ntmps27
    go_wp2
    go_ret
    exact ⟨rfl, rfl⟩
  have q1 : (k == 1) = false := beqF h1
  by_cases h2 : k = 2
  · have q2 : (k == 2) = true := beqT h2
    have HB : Hid (decide (k = 1 ∨ k = 2) = true) := Lib.hid (decide_eq_true (.inr h2))
    rw [HB.out]
    clear h1 h2
    go_enter Tryz.func27, Tryz.ntmps27
    go_wp2
    go_ret
    exact ⟨rfl, rfl⟩
  · have q2 : (k == 2) = false := beqF h2
    have HB : Hid (decide (k = 1 ∨ k = 2) = false) := Lib.hid (decide_eq_false (by omega))
    rw [HB.out]
    clear h1 h2
    go_enter Tryz.func27, Tryz.ntmps27
    go_wp2
    go_ret
    exact ⟨rfl, rfl⟩
def monoI (b : Bool) : Int := if b = true then 1 else 0
set_option maxRecDepth 100000 in
set_option maxHeartbeats 1000000 in
theorem monoOf_any (x : Pnt) (av pv nv : Value) (w : World) : Calls Tryz.prog 21 #[pntV x av pv nv] w fun e w' => e = .returned (.int .i64 (monoI x.mono)) ∧ Kept (fun _ => False) w w' := by
  unfold pntV pntC
  obtain ⟨name, L, kind, temp, mono, start, time, whole, re, im, ⟨sc, ze, po, pl, no, nl⟩, flags⟩ := x
  dsimp only
  have HK := Lib.hid ((Kept.refl (fun _ => False) w).alloc (.cells #[.string name, av, .int .i64 kind, .int .i64 temp, .bool mono, .int .i64 start, .int .i64 time, .int .i64 whole, .int .u64 re, .int .u64 im, .int .i64 sc, .int .u64 (ze : Int), .int .i64 po, pv, .int .i64 no, nv, .int .i64 flags] 30))
  cases mono with
  | true =>
    go_enter Tryz.func21, Tryz.ntmps21
    go_wp2
    go_ret
    exact ⟨rfl, HK.out⟩
  | false =>
    go_enter Tryz.func21, Tryz.ntmps21
    go_wp2
    go_ret
    exact ⟨rfl, HK.out⟩
theorem kind_cases (k : Int) : k = 3 ∨ k = 1 ∨ k = 2 ∨ k = 4 ∨ k = 5 ∨ (k ≠ 1 ∧ k ≠ 2 ∧ k ≠ 3 ∧ k ≠ 4 ∧ k ≠ 5) := by omega
set_option maxRecDepth 100000 in
set_option maxHeartbeats 4000000 in
theorem kindIsRight_any (x : Pnt) (av pv nv : Value) (w : World) : Calls Tryz.prog 26 #[pntV x av pv nv] w fun e w' => e = .returned (.bool (kindB x)) ∧ Kept (fun _ => False) w w' := by
  obtain ⟨B, hB⟩ : ∃ B, B = kindB x := ⟨_, rfl⟩
  rw [← hB]
  unfold kindB at hB
  unfold pntV pntC
  obtain ⟨name, L, kind, temp, mono, start, time, whole, re, im, ⟨sc, ze, po, pl, no, nl⟩, flags⟩ := x
  dsimp only at hB ⊢
  have HK := Lib.hid ((Kept.refl (fun _ => False) w).alloc (.cells #[.string name, av, .int .i64 kind, .int .i64 temp, .bool mono, .int .i64 start, .int .i64 time, .int .i64 whole, .int .u64 re, .int .u64 im, .int .i64 sc, .int .u64 (ze : Int), .int .i64 po, pv, .int .i64 no, nv, .int .i64 flags] 30))
  rcases kind_cases kind with e | e | e | e | e | ⟨n1, n2, n3, n4, n5⟩
  · subst e
    have HB : Hid ((temp == 0) = B) := Lib.hid (by rw [hB, Bool.eq_iff_iff, beq_iff_eq, decide_eq_true_eq]; omega)
    clear hB
    go_enter Tryz.func26, Tryz.ntmps26
    go_wp2
    go_ret
    exact ⟨ret_bool HB.out, HK.out⟩
  · subst e
    by_cases t1 : temp = 1
    · subst t1
      have HB : Hid (true = B) := Lib.hid (by rw [hB]; exact (decide_eq_true (by omega)).symm)
      clear hB
      go_enter Tryz.func26, Tryz.ntmps26
      go_wp2
      go_ret
      exact ⟨ret_bool HB.out, HK.out⟩
    · have q1 : (temp == 1) = false := beqF t1
      have HB : Hid ((temp == 2) = B) := Lib.hid (by rw [hB, Bool.eq_iff_iff, beq_iff_eq, decide_eq_true_eq]; omega)
      clear hB t1
      go_enter Tryz.func26, Tryz.ntmps26
      go_wp2
      go_ret
      exact ⟨ret_bool HB.out, HK.out⟩
  · subst e
    by_cases t1 : temp = 1
    · subst t1
      have HB : Hid (true = B) := Lib.hid (by rw [hB]; exact (decide_eq_true (by omega)).symm)
      clear hB
      go_enter Tryz.func26, Tryz.ntmps26
      go_wp2
      go_ret
      exact ⟨ret_bool HB.out, HK.out⟩
    · have q1 : (temp == 1) = false := beqF t1
      have HB : Hid ((temp == 2) = B) := Lib.hid (by rw [hB, Bool.eq_iff_iff, beq_iff_eq, decide_eq_true_eq]; omega)
      clear hB t1
      go_enter Tryz.func26, Tryz.ntmps26
      go_wp2
      go_ret
      exact ⟨ret_bool HB.out, HK.out⟩
  · subst e
    by_cases t1 : temp = 1
    · subst t1
      have HB : Hid (true = B) := Lib.hid (by rw [hB]; exact (decide_eq_true (by omega)).symm)
      clear hB
      go_enter Tryz.func26, Tryz.ntmps26
      go_wp2
      go_ret
      exact ⟨ret_bool HB.out, HK.out⟩
    · have q1 : (temp == 1) = false := beqF t1
      have HB : Hid ((temp == 2) = B) := Lib.hid (by rw [hB, Bool.eq_iff_iff, beq_iff_eq, decide_eq_true_eq]; omega)
      clear hB t1
      go_enter Tryz.func26, Tryz.ntmps26
      go_wp2
      go_ret
      exact ⟨ret_bool HB.out, HK.out⟩
  · subst e
    by_cases t1 : temp = 1
    · subst t1
      have HB : Hid (true = B) := Lib.hid (by rw [hB]; exact (decide_eq_true (by omega)).symm)
      clear hB
      go_enter Tryz.func26, Tryz.ntmps26
      go_wp2
      go_ret
      exact ⟨ret_bool HB.out, HK.out⟩
    · have q1 : (temp == 1) = false := beqF t1
      have HB : Hid ((temp == 2) = B) := Lib.hid (by rw [hB, Bool.eq_iff_iff, beq_iff_eq, decide_eq_true_eq]; omega)
      clear hB t1
      go_enter Tryz.func26, Tryz.ntmps26
      go_wp2
      go_ret
      exact ⟨ret_bool HB.out, HK.out⟩
  · have q1 : (kind == 1) = false := beqF n1
    have q2 : (kind == 2) = false := beqF n2
    have q3 : (kind == 3) = false := beqF n3
    have q4 : (kind == 4) = false := beqF n4
    have q5 : (kind == 5) = false := beqF n5
    have HB : Hid (false = B) := Lib.hid (by rw [hB]; exact (decide_eq_false (by omega)).symm)
    clear hB n1 n2 n3 n4 n5
    go_enter Tryz.func26, Tryz.ntmps26
    go_wp2
    go_ret
    exact ⟨ret_bool HB.out, HK.out⟩
set_option maxRecDepth 100000 in
set_option maxHeartbeats 4000000 in
theorem timesAreRight_any (x : Pnt) (av pv nv : Value) (w : World) : Calls Tryz.prog 28 #[pntV x av pv nv] w fun e w' => e = .returned (.bool (timesB x)) ∧ Kept (fun _ => False) w w' := by
  obtain ⟨B, hB⟩ : ∃ B, B = timesB x := ⟨_, rfl⟩
  rw [← hB]
  unfold timesB at hB
  unfold pntV pntC
  obtain ⟨name, L, kind, temp, mono, start, time, whole, re, im, ⟨sc, ze, po, pl, no, nl⟩, flags⟩ := x
  dsimp only at hB ⊢
  have HK := Lib.hid ((Kept.refl (fun _ => False) w).alloc (.cells #[.string name, av, .int .i64 kind, .int .i64 temp, .bool mono, .int .i64 start, .int .i64 time, .int .i64 whole, .int .u64 re, .int .u64 im, .int .i64 sc, .int .u64 (ze : Int), .int .i64 po, pv, .int .i64 no, nv, .int .i64 flags] 30))
  by_cases h1 : start < 0
  · have q1 : decide (start < 0) = true := decide_eq_true h1
    have HB : Hid (false = B) := Lib.hid (by rw [hB]; exact (decide_eq_false (by omega)).symm)
    clear hB h1
    go_enter Tryz.func28, Tryz.ntmps28
    go_wp2
    go_ret
    exact ⟨ret_bool HB.out, HK.out⟩
  have q1 : decide (start < 0) = false := decide_eq_false h1
  by_cases h2 : 4503599627370496 < time
  · have q2 : decide (4503599627370496 < time) = true := decide_eq_true h2
    have HB : Hid (false = B) := Lib.hid (by rw [hB]; exact (decide_eq_false (by omega)).symm)
    clear hB h1 h2
    go_enter Tryz.func28, Tryz.ntmps28
    go_wp2
    go_ret
    exact ⟨ret_bool HB.out, HK.out⟩
  have q2 : decide (4503599627370496 < time) = false := decide_eq_false h2
  by_cases h3 : kind = 3
  · subst h3
    have HB : Hid ((start == time) = B) := Lib.hid (by rw [hB, Bool.eq_iff_iff, beq_iff_eq, decide_eq_true_eq, if_pos rfl]; omega)
    clear hB h1 h2
    go_enter Tryz.func28, Tryz.ntmps28
    go_wp2
    go_ret
    exact ⟨ret_bool HB.out, HK.out⟩
  · have q3 : (kind == 3) = false := beqF h3
    have HB : Hid (decide (start < time) = B) := Lib.hid (by rw [hB, Bool.eq_iff_iff, decide_eq_true_eq, decide_eq_true_eq, if_neg h3]; omega)
    clear hB h1 h2 h3
    go_enter Tryz.func28, Tryz.ntmps28
    go_wp2
    go_ret
    exact ⟨ret_bool HB.out, HK.out⟩
end Go.Proofs.YteflepcmblacaaaGreatDoor
