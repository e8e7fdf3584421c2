/- Texts put together: what the theorem stands on. -/
import Derived.Test.YtiiibhdohlpodaaZz3
import Derived.Laws.StructEq
import Derived.Deep.RegionWith
import Derived.Lib.SmallJoins
import Derived.Deep.Strs
import Derived.Deep.Slices
import Derived.Deep.Fields
import Derived.ChangeSame

namespace Go.Proofs.Ytiiibhdohlpodaa
open Go.RowKit
attribute [local go_sem ↓] Go.wp_at_zero Go.wp_at_succ
/-- Is the one float below the other? -/
def lessI (a b : Int) : Bool := Ieee.double.order a.toNat b.toNat == some .lt
theorem fromBits_run (a : Int) (w : World) : (callFunc 91 #[.int .u64 a]).run Try.prog w = .ok (.value (.float .f64 a.toNat)) w := by kernel_rfl
set_option maxHeartbeats 400000 in
theorem float_any (a : Int) (w : World) :
    Calls Try.prog 68 #[.int .u64 a] w fun e w' => e = .returned (.float .f64 a.toNat) ∧ w = w' := by
  have hf := fromBits_run
  go_enter Try.func68, Try.ntmps68
  go_wp2
  go_ret
  exact ⟨rfl, rfl⟩
set_option maxHeartbeats 400000 in
theorem finite_any (a : Int) (h0 : 0 ≤ a) (h1 : a ≤ 18446744073709551615) (w : World) :
    Calls Try.prog 41 #[.int .u64 a] w fun e w' => e = .returned (.bool (finI a)) ∧ w = w' := by
  go_enter Try.func41, Try.ntmps41
  go_wp2
  go_ret
  exact ⟨ret_bool (finite_bits a h0 h1), rfl⟩
set_option maxHeartbeats 400000 in
theorem less_any (a b : Int) (w : World) :
    Calls Try.prog 42 #[.int .u64 a, .int .u64 b] w fun e w' => e = .returned (.bool (lessI a b)) ∧ w = w' := by
  go_enter Try.func42, Try.ntmps42
  go_wp2_with (go_at_call 68; refine (float_any _ _).mono ?_; rintro e w' ⟨rfl, rfl⟩)
  go_ret
  exact ⟨rfl, rfl⟩
/-- What a point tells. -/
structure Pnt where
  name : ByteArray
  L : List Pr
  kind : Int
  temp : Int
  mono : Bool
  start : Int
  time : Int
  whole : Int
  re : Int
  im : Int
  h : HistV
  flags : Int
/-- A point's cells: its attributes, its counts lie at av, pv, nv. -/
def pntC (x : Pnt) (av pv nv : Value) : Array Value := #[.string x.name, av, .int .i64 x.kind, .int .i64 x.temp, .bool x.mono, .int .i64 x.start, .int .i64 x.time, .int .i64 x.whole, .int .u64 x.re, .int .u64 x.im,
  .int .i64 x.h.sc, .int .u64 (x.h.ze : Int), .int .i64 x.h.po, pv, .int .i64 x.h.no, nv, .int .i64 x.flags]
def pntV (x : Pnt) (av pv nv : Value) : Value := .agg (pntC x av pv nv)
/-- There is such a kind, with that temporality. -/
def kindB (x : Pnt) : Bool := decide ((x.kind = 3 ∧ x.temp = 0) ∨ ((x.kind = 1 ∨ x.kind = 2 ∨ x.kind = 4 ∨ x.kind = 5) ∧ (x.temp = 1 ∨ x.temp = 2)))
/-- A point's times are right. -/
def timesB (x : Pnt) : Bool := decide ((0 ≤ x.start ∧ x.time ≤ 4503599627370496) ∧ (if x.kind = 3 then x.start = x.time else x.start < x.time))
def sumB (x : Pnt) : Bool := decide (x.kind = 1 ∨ x.kind = 2)
/-- The point has no value but that of its kind. -/
def ownB (x : Pnt) : Bool := decide ((x.kind = 1 ∨ x.whole = 0) ∧ (x.kind = 2 ∨ x.kind = 3 ∨ x.kind = 5 ∨ x.re = 0) ∧ (x.kind = 5 ∨ x.im = 0) ∧ (x.kind = 4 ∨ ((x.h.sc = 0 ∧ x.h.ze = 0) ∧ (x.h.po = 0 ∧ x.h.no = 0) ∧ (x.h.pl.length = 0 ∧ x.h.nl.length = 0))))
/-- What is wrong with a point. -/
def chk (x : Pnt) : Nat :=
  if checkE x.name x.L ≠ 0 then checkE x.name x.L else
  if kindB x = false then 14 else
  if (x.mono = true ∧ sumB x = false) ∨ timesB x = false then 1 else
  if ownB x = false ∨ x.flags < 0 ∨ 31 < x.flags then 3 else
  if x.mono = true ∧ finI x.re = false then 11 else
  if x.mono = true ∧ (x.whole < 0 ∨ lessI x.re 0 = true) then 1 else x.h.err
/-- A point in memory. -/
structure PntAt (w : World) (x : Pnt) (ao : Option Addr) (c : Nat) (pv nv : Value) : Prop where
  ps : PsAt w ao x.L
  cap : x.L.length ≤ c
  hist : HistAt w x.h pv nv
theorem PntAt.on {w w' : World} {x : Pnt} {ao : Option Addr} {c : Nat} {pv nv : Value} (a : PntAt w x ao c pv nv) (hk : Kept (fun _ => False) w w') : PntAt w' x ao c pv nv := ⟨a.ps.kept hk, a.cap, a.hist.on hk⟩
/-- What the types bound. -/
structure Pnt.ok (x : Pnt) : Prop where
  kind : I64 x.kind
  temp : I64 x.temp
  start : I64 x.start
  time : I64 x.time
  whole : I64 x.whole
  re : 0 ≤ x.re ∧ x.re ≤ 18446744073709551615
  im : 0 ≤ x.im ∧ x.im ≤ 18446744073709551615
  h : x.h.ok
  flags : I64 x.flags
/-- A light point. -/
structure Pnt.light (x : Pnt) : Prop where
  name : x.name.size ≤ 1000
  len : x.L.length ≤ 20
  sh : Sh 1000 x.L
  pl : x.h.pl.length ≤ 1000
  nl : x.h.nl.length ≤ 1000
end Go.Proofs.Ytiiibhdohlpodaa
namespace Go.Proofs.Ytiiibhdohlpodaa
open Go.RowKit
attribute [local go_sem ↓] Go.wp_at_zero Go.wp_at_succ
/-- Cells of a block, written one behind the other. -/
def setRow (w : World) (q : Nat) : Nat → List Value → World
  | _, [] => w
  | i, v :: vs => setRow (w.setCell ⟨q, i, none⟩ v) q (i + 1) vs
theorem setRow_box {q : Nat} {T : TypeId} : ∀ (vs : List Value) (i : Nat) (w : World) (cs : Array Value), w.heap[q]? = some (.cells cs T (0, 0)) → cs.size = i + vs.length →
    (setRow w q i vs).heap[q]? = some (.cells (cs.toList.take i ++ vs).toArray T (0, 0))
  | [], i, w, cs, h, e => by
    unfold setRow
    rw [h, List.append_nil, List.take_of_length_le (by rw [Array.length_toList, e]; simp)]
  | v :: vs, i, w, cs, h, e => by
    unfold setRow
    rw [List.length_cons] at e
    have h1 := heap_setCell_same _ _ i _ _ v h
    rw [setRow_box vs (i + 1) _ _ h1 (by simp; omega)]
    congr 2
    have : i < cs.toList.length := by rw [Array.length_toList]; omega
    rw [Array.toList_setIfInBounds, List.take_add_one, List.take_set_of_le (Nat.le_refl _), List.getElem?_set_self this]
    simp
theorem setRow_kept {q : Nat} : ∀ (vs : List Value) (i : Nat) (w : World), Kept (fun k => k = q) w (setRow w q i vs)
  | [], _, _ => Kept.refl _ _
  | v :: vs, i, w => by
    unfold setRow
    exact ((Kept.refl (fun k => k = q) w).setCell (p := ⟨q, i, none⟩) (fun _ => rfl) v).trans (setRow_kept vs (i + 1) _)
theorem setRow_new {w w1 : World} {q : Nat} (k : Kept (fun _ => False) w w1) (hq : w.heap.size ≤ q) (vs : List Value) : Kept (fun _ => False) w (setRow w1 q 0 vs) :=
  k.newer (setRow_kept vs 0 w1) (fun j e => by omega)
theorem box_second (w : World) (o1 o2 o3 : Obj) : (((w.alloc o1).alloc o2).alloc o3).heap[w.heap.size + 1]? = some o2 := by
  have h := heap_alloc_new (w.alloc o1) o2
  have e : (w.alloc o1).heap.size = w.heap.size + 1 := by simp
  rw [e] at h
  exact ((Kept.refl (fun _ => False) _).alloc o3).same h (fun x => x)
theorem box_second2 (w : World) (o1 o2 : Obj) : ((w.alloc o1).alloc o2).heap[w.heap.size + 1]? = some o2 := by
  have h := heap_alloc_new (w.alloc o1) o2
  have e : (w.alloc o1).heap.size = w.heap.size + 1 := by simp
  rw [e] at h
  exact h
/-- A point's value, as the program tells it. -/
def valC (x : Pnt) : List Value := [.int .i64 x.whole, .int .u64 x.re, .int .u64 x.im, .int .i64 x.h.sc, .int .u64 (x.h.ze : Int), .int .i64 x.h.po, .int .i64 x.h.no, .int .i64 (x.h.pl.length : Nat), .int .i64 (x.h.nl.length : Nat)]
theorem val_info : (Try.prog.info? 68).map (·.size) = some 9 := by kernel_rfl
set_option maxRecDepth 100000 in
set_option maxHeartbeats 2000000 in
theorem valueOf_any (x : Pnt) (av : Value) (pa na : Option Addr) (pc nc : Nat) (w : World) :
    Calls Try.prog 39 #[pntV x av (.slice pa x.h.pl.length pc) (.slice na x.h.nl.length nc)] w fun e w' => e = .returned (.agg (valC x).toArray) ∧ Kept (fun _ => False) w w' := by
  unfold pntV pntC valC
  obtain ⟨name, L, kind, temp, mono, start, time, whole, re, im, ⟨sc, ze, po, pl, no, nl⟩, flags⟩ := x
  dsimp only
  obtain ⟨m, hm⟩ : ∃ m, m = pl.length := ⟨_, rfl⟩
  obtain ⟨n, hn⟩ : ∃ n, n = nl.length := ⟨_, rfl⟩
  rw [← hm, ← hn]
  obtain ⟨w3, hw3⟩ : ∃ w3, w3 = (((w.alloc (.cells #[.string name, av, .int .i64 kind, .int .i64 temp, .bool mono, .int .i64 start, .int .i64 time, .int .i64 whole, .int .u64 re, .int .u64 im, .int .i64 sc, .int .u64 (ze : Int), .int .i64 po, .slice pa m pc, .int .i64 no, .slice na n nc, .int .i64 flags] 37)).alloc
    (.cells #[.int .i64 whole, .int .u64 re, .int .u64 im, .int .i64 sc, .int .u64 (ze : Int), .int .i64 po, .int .i64 no, .int .i64 (m : Int), .int .i64 (n : Int)] 68)).alloc (.cells #[.int .i64 sc, .int .u64 (ze : Int), .int .i64 po, .slice pa m pc, .int .i64 no, .slice na n nc] 30)) := ⟨_, rfl⟩
  have HB : Hid (w3.heap[w.heap.size + 1]? = some (.cells #[.int .i64 whole, .int .u64 re, .int .u64 im, .int .i64 sc, .int .u64 (ze : Int), .int .i64 po, .int .i64 no, .int .i64 (m : Int), .int .i64 (n : Int)] 68 (0, 0))) := Lib.hid (by rw [hw3]; exact box_second w _ _ _)
  have HK : Hid (Kept (fun _ => False) w w3) := Lib.hid (by rw [hw3]; exact (((Kept.refl _ _).alloc _).alloc _).alloc _)
  have HW := Lib.hid hw3
  clear hm hn hw3
  go_enter Try.func39, Try.ntmps39
  go_wp2
  rw [← HW.out]
  exact bodyPost_ret (results_cell_row Try.results39 _ _ (w.heap.size + 1) 68 _ (0, 0) _ rfl HB.out Try.underlying68 rfl val_info) rfl
    ⟨rfl, HK.out⟩
set_option maxRecDepth 100000 in
set_option maxHeartbeats 1000000 in
theorem isSum_any (k : Int) (w : World) : Calls Try.prog 37 #[.int .i64 k] w fun e w' => e = .returned (.bool (decide (k = 1 ∨ k = 2))) ∧ w = w' := by
  by_cases h1 : k = 1
  · have q1 : (k == 1) = true := beqT h1
    have HB : Hid (decide (k = 1 ∨ k = 2) = true) := Lib.hid (decide_eq_true (.inl h1))
    rw [HB.out]
    clear h1
    go_enter Try.func37, Try.ntmps37
    go_wp2
    go_ret
    exact ⟨rfl, rfl⟩
  have q1 : (k == 1) = false := beqF h1
  by_cases h2 : k = 2
  · have q2 : (k == 2) = true := beqT h2
    have HB : Hid (decide (k = 1 ∨ k = 2) = true) := Lib.hid (decide_eq_true (.inr h2))
    rw [HB.out]
    clear h1 h2
    go_enter Try.func37, Try.ntmps37
    go_wp2
    go_ret
    exact ⟨rfl, rfl⟩
  · have q2 : (k == 2) = false := beqF h2
    have HB : Hid (decide (k = 1 ∨ k = 2) = false) := Lib.hid (decide_eq_false (by omega))
    rw [HB.out]
    clear h1 h2
    go_enter Try.func37, Try.ntmps37
    go_wp2
    go_ret
    exact ⟨rfl, rfl⟩
theorem kind_cases (k : Int) : k = 3 ∨ k = 1 ∨ k = 2 ∨ k = 4 ∨ k = 5 ∨ (k ≠ 1 ∧ k ≠ 2 ∧ k ≠ 3 ∧ k ≠ 4 ∧ k ≠ 5) := by omega
set_option maxRecDepth 100000 in
set_option maxHeartbeats 4000000 in
theorem kindIsRight_any (x : Pnt) (av pv nv : Value) (w : World) : Calls Try.prog 36 #[pntV x av pv nv] w fun e w' => e = .returned (.bool (kindB x)) ∧ Kept (fun _ => False) w w' := by
  obtain ⟨B, hB⟩ : ∃ B, B = kindB x := ⟨_, rfl⟩
  rw [← hB]
  unfold kindB at hB
  unfold pntV pntC
  obtain ⟨name, L, kind, temp, mono, start, time, whole, re, im, ⟨sc, ze, po, pl, no, nl⟩, flags⟩ := x
  dsimp only at hB ⊢
  have HK := Lib.hid ((Kept.refl (fun _ => False) w).alloc (.cells #[.string name, av, .int .i64 kind, .int .i64 temp, .bool mono, .int .i64 start, .int .i64 time, .int .i64 whole, .int .u64 re, .int .u64 im, .int .i64 sc, .int .u64 (ze : Int), .int .i64 po, pv, .int .i64 no, nv, .int .i64 flags] 37))
  rcases kind_cases kind with e | e | e | e | e | ⟨n1, n2, n3, n4, n5⟩
  · subst e
    have HB : Hid ((temp == 0) = B) := Lib.hid (by rw [hB, Bool.eq_iff_iff, beq_iff_eq, decide_eq_true_eq]; omega)
    clear hB
    go_enter Try.func36, Try.ntmps36
    go_wp2
    go_ret
    exact ⟨ret_bool HB.out, HK.out⟩
  · subst e
    by_cases t1 : temp = 1
    · subst t1
      have HB : Hid (true = B) := Lib.hid (by rw [hB]; exact (decide_eq_true (by omega)).symm)
      clear hB
      go_enter Try.func36, Try.ntmps36
      go_wp2
      go_ret
      exact ⟨ret_bool HB.out, HK.out⟩
    · have q1 : (temp == 1) = false := beqF t1
      have HB : Hid ((temp == 2) = B) := Lib.hid (by rw [hB, Bool.eq_iff_iff, beq_iff_eq, decide_eq_true_eq]; omega)
      clear hB t1
      go_enter Try.func36, Try.ntmps36
      go_wp2
      go_ret
      exact ⟨ret_bool HB.out, HK.out⟩
  · subst e
    by_cases t1 : temp = 1
    · subst t1
      have HB : Hid (true = B) := Lib.hid (by rw [hB]; exact (decide_eq_true (by omega)).symm)
      clear hB
      go_enter Try.func36, Try.ntmps36
      go_wp2
      go_ret
      exact ⟨ret_bool HB.out, HK.out⟩
    · have q1 : (temp == 1) = false := beqF t1
      have HB : Hid ((temp == 2) = B) := Lib.hid (by rw [hB, Bool.eq_iff_iff, beq_iff_eq, decide_eq_true_eq]; omega)
      clear hB t1
      go_enter Try.func36, Try.ntmps36
      go_wp2
      go_ret
      exact ⟨ret_bool HB.out, HK.out⟩
  · subst e
    by_cases t1 : temp = 1
    · subst t1
      have HB : Hid (true = B) := Lib.hid (by rw [hB]; exact (decide_eq_true (by omega)).symm)
      clear hB
      go_enter Try.func36, Try.ntmps36
      go_wp2
      go_ret
      exact ⟨ret_bool HB.out, HK.out⟩
    · have q1 : (temp == 1) = false := beqF t1
      have HB : Hid ((temp == 2) = B) := Lib.hid (by rw [hB, Bool.eq_iff_iff, beq_iff_eq, decide_eq_true_eq]; omega)
      clear hB t1
      go_enter Try.func36, Try.ntmps36
      go_wp2
      go_ret
      exact ⟨ret_bool HB.out, HK.out⟩
  · subst e
    by_cases t1 : temp = 1
    · subst t1
      have HB : Hid (true = B) := Lib.hid (by rw [hB]; exact (decide_eq_true (by omega)).symm)
      clear hB
      go_enter Try.func36, Try.ntmps36
      go_wp2
      go_ret
      exact ⟨ret_bool HB.out, HK.out⟩
    · have q1 : (temp == 1) = false := beqF t1
      have HB : Hid ((temp == 2) = B) := Lib.hid (by rw [hB, Bool.eq_iff_iff, beq_iff_eq, decide_eq_true_eq]; omega)
      clear hB t1
      go_enter Try.func36, Try.ntmps36
      go_wp2
      go_ret
      exact ⟨ret_bool HB.out, HK.out⟩
  · have q1 : (kind == 1) = false := beqF n1
    have q2 : (kind == 2) = false := beqF n2
    have q3 : (kind == 3) = false := beqF n3
    have q4 : (kind == 4) = false := beqF n4
    have q5 : (kind == 5) = false := beqF n5
    have HB : Hid (false = B) := Lib.hid (by rw [hB]; exact (decide_eq_false (by omega)).symm)
    clear hB n1 n2 n3 n4 n5
    go_enter Try.func36, Try.ntmps36
    go_wp2
    go_ret
    exact ⟨ret_bool HB.out, HK.out⟩
set_option maxRecDepth 100000 in
set_option maxHeartbeats 4000000 in
theorem timesAreRight_any (x : Pnt) (av pv nv : Value) (w : World) : Calls Try.prog 38 #[pntV x av pv nv] w fun e w' => e = .returned (.bool (timesB x)) ∧ Kept (fun _ => False) w w' := by
  obtain ⟨B, hB⟩ : ∃ B, B = timesB x := ⟨_, rfl⟩
  rw [← hB]
  unfold timesB at hB
  unfold pntV pntC
  obtain ⟨name, L, kind, temp, mono, start, time, whole, re, im, ⟨sc, ze, po, pl, no, nl⟩, flags⟩ := x
  dsimp only at hB ⊢
  have HK := Lib.hid ((Kept.refl (fun _ => False) w).alloc (.cells #[.string name, av, .int .i64 kind, .int .i64 temp, .bool mono, .int .i64 start, .int .i64 time, .int .i64 whole, .int .u64 re, .int .u64 im, .int .i64 sc, .int .u64 (ze : Int), .int .i64 po, pv, .int .i64 no, nv, .int .i64 flags] 37))
  by_cases h1 : start < 0
  · have q1 : decide (start < 0) = true := decide_eq_true h1
    have HB : Hid (false = B) := Lib.hid (by rw [hB]; exact (decide_eq_false (by omega)).symm)
    clear hB h1
    go_enter Try.func38, Try.ntmps38
    go_wp2
    go_ret
    exact ⟨ret_bool HB.out, HK.out⟩
  have q1 : decide (start < 0) = false := decide_eq_false h1
  by_cases h2 : 4503599627370496 < time
  · have q2 : decide (4503599627370496 < time) = true := decide_eq_true h2
    have HB : Hid (false = B) := Lib.hid (by rw [hB]; exact (decide_eq_false (by omega)).symm)
    clear hB h1 h2
    go_enter Try.func38, Try.ntmps38
    go_wp2
    go_ret
    exact ⟨ret_bool HB.out, HK.out⟩
  have q2 : decide (4503599627370496 < time) = false := decide_eq_false h2
  by_cases h3 : kind = 3
  · subst h3
    have HB : Hid ((start == time) = B) := Lib.hid (by rw [hB, Bool.eq_iff_iff, beq_iff_eq, decide_eq_true_eq, if_pos rfl]; omega)
    clear hB h1 h2
    go_enter Try.func38, Try.ntmps38
    go_wp2
    go_ret
    exact ⟨ret_bool HB.out, HK.out⟩
  · have q3 : (kind == 3) = false := beqF h3
    have HB : Hid (decide (start < time) = B) := Lib.hid (by rw [hB, Bool.eq_iff_iff, decide_eq_true_eq, decide_eq_true_eq, if_neg h3]; omega)
    clear hB h1 h2 h3
    go_enter Try.func38, Try.ntmps38
    go_wp2
    go_ret
    exact ⟨ret_bool HB.out, HK.out⟩
end Go.Proofs.Ytiiibhdohlpodaa
namespace Go.Proofs.Ytiiibhdohlpodaa
open Go.RowKit
attribute [local go_sem ↓] Go.wp_at_zero Go.wp_at_succ
/-- Of a point's value that which its kind has. -/
def ownC (x : Pnt) : List Value :=
  if x.kind = 1 then [.int .i64 x.whole, .int .u64 0, .int .u64 0, .int .i64 0, .int .u64 0, .int .i64 0, .int .i64 0, .int .i64 0, .int .i64 0] else if x.kind = 2 ∨ x.kind = 3 then [.int .i64 0, .int .u64 x.re, .int .u64 0, .int .i64 0, .int .u64 0, .int .i64 0, .int .i64 0, .int .i64 0, .int .i64 0] else if x.kind = 5 then [.int .i64 0, .int .u64 x.re, .int .u64 x.im, .int .i64 0, .int .u64 0, .int .i64 0, .int .i64 0, .int .i64 0, .int .i64 0]
  else if x.kind = 4 then [.int .i64 0, .int .u64 0, .int .u64 0, .int .i64 x.h.sc, .int .u64 (x.h.ze : Int), .int .i64 x.h.po, .int .i64 x.h.no, .int .i64 (x.h.pl.length : Nat), .int .i64 (x.h.nl.length : Nat)] else [.int .i64 0, .int .u64 0, .int .u64 0, .int .i64 0, .int .u64 0, .int .i64 0, .int .i64 0, .int .i64 0, .int .i64 0]
theorem cell_rowZ {w : World} {g : Nat} {cs : Array Value} {T : TypeId} (i : Nat) (v : Value) (h : w.heap[g]? = some (.cells cs T (0, 0))) (e : cs[i]? = some v) : w.cell? ⟨g, i, none⟩ = some v := (cell_of_row w g i _ _ _ h).trans e
theorem free_of_rowZ {w : World} {g : Nat} {cs : Array Value} {T : TypeId} (i : Nat) (h : w.heap[g]? = some (.cells cs T (0, 0))) : w.frozen? ⟨g, i, none⟩ = false := by
  simp [World.frozen?, h]
set_option maxRecDepth 100000 in
set_option maxHeartbeats 4000000 in
theorem ownOf_any (x : Pnt) (av : Value) (pa na : Option Addr) (pc nc : Nat) (w : World) :
    Calls Try.prog 40 #[pntV x av (.slice pa x.h.pl.length pc) (.slice na x.h.nl.length nc)] w fun e w' => e = .returned (.agg (ownC x).toArray) ∧ Kept (fun _ => False) w w' := by
  have HVO := Lib.hid (fun w' => valueOf_any x av pa na pc nc w')
  obtain ⟨C, hC⟩ : ∃ C, C = ownC x := ⟨_, rfl⟩
  rw [← hC]
  unfold ownC at hC
  unfold pntV pntC valC at HVO
  unfold pntV pntC
  obtain ⟨name, L, kind, temp, mono, start, time, whole, re, im, ⟨sc, ze, po, pl, no, nl⟩, flags⟩ := x
  dsimp only at hC HVO ⊢
  obtain ⟨m, hm⟩ : ∃ m, m = pl.length := ⟨_, rfl⟩
  obtain ⟨n, hn⟩ : ∃ n, n = nl.length := ⟨_, rfl⟩
  rw [← hm, ← hn] at hC HVO ⊢
  clear hm hn
  obtain ⟨w3, hw3⟩ : ∃ w3, w3 = ((w.alloc (.cells #[.string name, av, .int .i64 kind, .int .i64 temp, .bool mono, .int .i64 start, .int .i64 time, .int .i64 whole, .int .u64 re, .int .u64 im, .int .i64 sc, .int .u64 (ze : Int), .int .i64 po, .slice pa m pc, .int .i64 no, .slice na n nc, .int .i64 flags] 37)).alloc (.cells #[.int .i64 0, .int .u64 0, .int .u64 0, .int .i64 0, .int .u64 0, .int .i64 0, .int .i64 0, .int .i64 0, .int .i64 0] 68)).alloc (.cells #[.int .i64 0, .int .u64 0, .int .u64 0, .int .i64 0, .int .u64 0, .int .i64 0, .int .i64 0, .int .i64 0, .int .i64 0] 68) := ⟨_, rfl⟩
  have HK : Hid (Kept (fun _ => False) w w3) := Lib.hid (by rw [hw3]; exact (((Kept.refl _ _).alloc _).alloc _).alloc _)
  have HW := Lib.hid hw3
  rcases kind_cases kind with e | e | e | e | e | ⟨n1, n2, n3, n4, n5⟩
  · subst e
    rw [if_neg (by decide), if_pos (by decide)] at hC
    subst hC
    go_enter Try.func40, Try.ntmps40
    go_wp2
    exact bodyPost_ret (results_cell_row Try.results40 _ _ (w.heap.size + 1) 68 _ (0, 0) _ rfl (box_second w _ _ _) Try.underlying68 rfl val_info) rfl ⟨rfl, (((Kept.refl _ _).alloc _).alloc _).alloc _⟩
  · subst e
    rw [if_pos (by decide)] at hC
    subst hC
    go_enter Try.func40, Try.ntmps40
    go_wp2
    exact bodyPost_ret (results_cell_row Try.results40 _ _ (w.heap.size + 1) 68 _ (0, 0) _ rfl (box_second w _ _ _) Try.underlying68 rfl val_info) rfl ⟨rfl, (((Kept.refl _ _).alloc _).alloc _).alloc _⟩
  · subst e
    rw [if_neg (by decide), if_pos (by decide)] at hC
    subst hC
    go_enter Try.func40, Try.ntmps40
    go_wp2
    exact bodyPost_ret (results_cell_row Try.results40 _ _ (w.heap.size + 1) 68 _ (0, 0) _ rfl (box_second w _ _ _) Try.underlying68 rfl val_info) rfl ⟨rfl, (((Kept.refl _ _).alloc _).alloc _).alloc _⟩
  · subst e
    rw [if_neg (by decide), if_neg (by decide), if_neg (by decide), if_pos (by decide)] at hC
    subst hC
    obtain ⟨q, hq⟩ : ∃ q, q = w.heap.size := ⟨_, rfl⟩
    have HB1 : Hid (w3.heap[q + 1]? = some (.cells #[.int .i64 0, .int .u64 0, .int .u64 0, .int .i64 0, .int .u64 0, .int .i64 0, .int .i64 0, .int .i64 0, .int .i64 0] 68 (0, 0))) := Lib.hid (by rw [hw3, hq]; exact box_second w _ _ _)
    have HB2 : Hid (w3.heap[q + 1 + 1]? = some (.cells #[.int .i64 0, .int .u64 0, .int .u64 0, .int .i64 0, .int .u64 0, .int .i64 0, .int .i64 0, .int .i64 0, .int .i64 0] 68 (0, 0))) := Lib.hid (by
      rw [hw3, hq]
      have h := heap_alloc_new ((w.alloc (.cells #[.string name, av, .int .i64 4, .int .i64 temp, .bool mono, .int .i64 start, .int .i64 time, .int .i64 whole, .int .u64 re, .int .u64 im, .int .i64 sc, .int .u64 (ze : Int), .int .i64 po, .slice pa m pc, .int .i64 no, .slice na n nc, .int .i64 flags] 37)).alloc (.cells #[.int .i64 0, .int .u64 0, .int .u64 0, .int .i64 0, .int .u64 0, .int .i64 0, .int .i64 0, .int .i64 0, .int .i64 0] 68)) (.cells #[.int .i64 0, .int .u64 0, .int .u64 0, .int .i64 0, .int .u64 0, .int .i64 0, .int .i64 0, .int .i64 0, .int .i64 0] 68)
      simpa using h)
    have HQ := Lib.hid hq
    clear hw3 hq
    go_enter Try.func40, Try.ntmps40
    go_wp2_with fail
    rw [← HW.out, ← HQ.out]
    refine (HVO.out w3).mono ?_
    rintro e w4 ⟨rfl, k4⟩
    have b1 := k4.same HB1.out (fun x => x)
    have b2 := k4.same HB2.out (fun x => x)
    have HB1b := Lib.hid b1
    have HB2b := Lib.hid b2
    have HK4 := Lib.hid (HK.out.trans k4)
    have xc0 := cell_rowZ 0 _ b2 rfl
    have xf0 := free_of_rowZ 0 b2
    have xc1 := cell_rowZ 1 _ b2 rfl
    have xf1 := free_of_rowZ 1 b2
    have xc2 := cell_rowZ 2 _ b2 rfl
    have xf2 := free_of_rowZ 2 b2
    have xc3 := cell_rowZ 3 _ b2 rfl
    have xf3 := free_of_rowZ 3 b2
    have xc4 := cell_rowZ 4 _ b2 rfl
    have xf4 := free_of_rowZ 4 b2
    have xc5 := cell_rowZ 5 _ b2 rfl
    have xf5 := free_of_rowZ 5 b2
    have xc6 := cell_rowZ 6 _ b2 rfl
    have xf6 := free_of_rowZ 6 b2
    have xc7 := cell_rowZ 7 _ b2 rfl
    have xf7 := free_of_rowZ 7 b2
    have xc8 := cell_rowZ 8 _ b2 rfl
    have xf8 := free_of_rowZ 8 b2
    clear b1 b2 k4
    go_upto_region 12 with fail
    obtain ⟨w5, hw5⟩ : ∃ w5, w5 = setRow w4 (q + 1 + 1) 0 [.int .i64 whole, .int .u64 re, .int .u64 im, .int .i64 sc, .int .u64 (ze : Int), .int .i64 po, .int .i64 no, .int .i64 (m : Int), .int .i64 (n : Int)] := ⟨_, rfl⟩
    have b5 : w5.heap[q + 1 + 1]? = some (.cells #[.int .i64 whole, .int .u64 re, .int .u64 im, .int .i64 sc, .int .u64 (ze : Int), .int .i64 po, .int .i64 no, .int .i64 (m : Int), .int .i64 (n : Int)] 68 (0, 0)) := by rw [hw5]; exact setRow_box _ 0 w4 _ HB2b.out rfl
    have k5 : Kept (fun k => k = q + 1 + 1) w4 w5 := by rw [hw5]; exact setRow_kept _ 0 w4
    simp only [setRow, Nat.zero_add, Nat.reduceAdd] at hw5
    rw [← hw5]
    clear hw5 xc0 xf0 xc1 xf1 xc2 xf2 xc3 xf3 xc4 xf4 xc5 xf5 xc6 xf6 xc7 xf7 xc8 xf8
    have yc0 := cell_rowZ 0 _ b5 rfl
    have yf0 := free_of_rowZ 0 b5
    have yc1 := cell_rowZ 1 _ b5 rfl
    have yf1 := free_of_rowZ 1 b5
    have yc2 := cell_rowZ 2 _ b5 rfl
    have yf2 := free_of_rowZ 2 b5
    have HB5 := Lib.hid b5
    have HK5 := Lib.hid k5
    clear b5 k5
    go_upto_region 13 with fail
    obtain ⟨w6, hw6⟩ : ∃ w6, w6 = ((w5.setCell ⟨q + 1 + 1, 0, none⟩ (.int .i64 0)).setCell ⟨q + 1 + 1, 1, none⟩ (.int .u64 0)).setCell ⟨q + 1 + 1, 2, none⟩ (.int .u64 0) := ⟨_, rfl⟩
    have b6 : w6.heap[q + 1 + 1]? = some (.cells #[.int .i64 0, .int .u64 0, .int .u64 0, .int .i64 sc, .int .u64 (ze : Int), .int .i64 po, .int .i64 no, .int .i64 (m : Int), .int .i64 (n : Int)] 68 (0, 0)) := by
      rw [hw6]
      exact heap_setCell_same _ _ 2 _ _ (.int .u64 0) (heap_setCell_same _ _ 1 _ _ (.int .u64 0) (heap_setCell_same _ _ 0 _ _ (.int .i64 0) HB5.out))
    have k6 : Kept (fun k => k = q + 1 + 1) w5 w6 := by
      rw [hw6]
      exact (((Kept.refl (fun k => k = q + 1 + 1) w5).setCell (p := ⟨q + 1 + 1, 0, none⟩) (fun _ => rfl) _).setCell (p := ⟨q + 1 + 1, 1, none⟩) (fun _ => rfl) _).setCell (p := ⟨q + 1 + 1, 2, none⟩) (fun _ => rfl) _
    rw [← hw6]
    have r6 := k6.same (HK5.out.same HB1b.out (by omega)) (by omega)
    have HR6 := Lib.hid r6
    have HK6 := Lib.hid (HK4.out.newer (HK5.out.trans k6) (fun j e => by have := HQ.out; omega))
    clear hw6 k6 yc0 yf0 yc1 yf1 yc2 yf2
    have zc0 := cell_rowZ 0 _ b6 rfl
    have zf0 := free_of_rowZ 0 b6
    have zc1 := cell_rowZ 1 _ b6 rfl
    have zf1 := free_of_rowZ 1 b6
    have zc2 := cell_rowZ 2 _ b6 rfl
    have zf2 := free_of_rowZ 2 b6
    have zc3 := cell_rowZ 3 _ b6 rfl
    have zf3 := free_of_rowZ 3 b6
    have zc4 := cell_rowZ 4 _ b6 rfl
    have zf4 := free_of_rowZ 4 b6
    have zc5 := cell_rowZ 5 _ b6 rfl
    have zf5 := free_of_rowZ 5 b6
    have zc6 := cell_rowZ 6 _ b6 rfl
    have zf6 := free_of_rowZ 6 b6
    have zc7 := cell_rowZ 7 _ b6 rfl
    have zf7 := free_of_rowZ 7 b6
    have zc8 := cell_rowZ 8 _ b6 rfl
    have zf8 := free_of_rowZ 8 b6
    have rc0 := cell_rowZ 0 _ r6 rfl
    have rf0 := free_of_rowZ 0 r6
    have rc1 := cell_rowZ 1 _ r6 rfl
    have rf1 := free_of_rowZ 1 r6
    have rc2 := cell_rowZ 2 _ r6 rfl
    have rf2 := free_of_rowZ 2 r6
    have rc3 := cell_rowZ 3 _ r6 rfl
    have rf3 := free_of_rowZ 3 r6
    have rc4 := cell_rowZ 4 _ r6 rfl
    have rf4 := free_of_rowZ 4 r6
    have rc5 := cell_rowZ 5 _ r6 rfl
    have rf5 := free_of_rowZ 5 r6
    have rc6 := cell_rowZ 6 _ r6 rfl
    have rf6 := free_of_rowZ 6 r6
    have rc7 := cell_rowZ 7 _ r6 rfl
    have rf7 := free_of_rowZ 7 r6
    have rc8 := cell_rowZ 8 _ r6 rfl
    have rf8 := free_of_rowZ 8 r6
    clear b6 r6
    go_wp2
    obtain ⟨w7, hw7⟩ : ∃ w7, w7 = setRow w6 (q + 1) 0 [.int .i64 0, .int .u64 0, .int .u64 0, .int .i64 sc, .int .u64 (ze : Int), .int .i64 po, .int .i64 no, .int .i64 (m : Int), .int .i64 (n : Int)] := ⟨_, rfl⟩
    have b7 : w7.heap[q + 1]? = some (.cells #[.int .i64 0, .int .u64 0, .int .u64 0, .int .i64 sc, .int .u64 (ze : Int), .int .i64 po, .int .i64 no, .int .i64 (m : Int), .int .i64 (n : Int)] 68 (0, 0)) := by rw [hw7]; exact setRow_box _ 0 w6 _ HR6.out rfl
    have k7 : Kept (fun _ => False) w w7 := by rw [hw7]; exact setRow_new HK6.out (by have := HQ.out; omega) _
    simp only [setRow, Nat.zero_add, Nat.reduceAdd] at hw7
    rw [← hw7]
    exact bodyPost_ret (results_cell_row Try.results40 _ _ (q + 1) 68 _ (0, 0) _ rfl b7 Try.underlying68 rfl val_info) rfl ⟨rfl, k7⟩
  · subst e
    rw [if_neg (by decide), if_neg (by decide), if_pos (by decide)] at hC
    subst hC
    go_enter Try.func40, Try.ntmps40
    go_wp2
    go_region
    go_wp2
    exact bodyPost_ret (results_cell_row Try.results40 _ _ (w.heap.size + 1) 68 _ (0, 0) _ rfl (box_second w _ _ _) Try.underlying68 rfl val_info) rfl ⟨rfl, ((((Kept.refl _ _).alloc _).alloc _).alloc _).drew⟩
  · have q1 : (kind == 1) = false := beqF n1
    have q2 : (kind == 2) = false := beqF n2
    have q3 : (kind == 3) = false := beqF n3
    have q4 : (kind == 4) = false := beqF n4
    have q5 : (kind == 5) = false := beqF n5
    rw [if_neg n1, if_neg (by omega), if_neg n5, if_neg n4] at hC
    subst hC
    clear n1 n2 n3 n4 n5
    go_enter Try.func40, Try.ntmps40
    go_wp2
    exact bodyPost_ret (results_cell_row Try.results40 _ _ (w.heap.size + 1) 68 _ (0, 0) _ rfl (box_second w _ _ _) Try.underlying68 rfl val_info) rfl ⟨rfl, (((Kept.refl _ _).alloc _).alloc _).alloc _⟩
end Go.Proofs.Ytiiibhdohlpodaa
namespace Go.Proofs.Ytiiibhdohlpodaa
open Go.RowKit
attribute [local go_sem ↓] Go.wp_at_zero Go.wp_at_succ
set_option maxRecDepth 100000 in
set_option maxHeartbeats 4000000 in
theorem neq_val (a0 b0 a1 b1 a2 b2 a3 b3 a4 b4 a5 b5 a6 b6 a7 b7 a8 b8 : Int) (w : World) : (binOp .neq 68 (.agg #[.int .i64 a0, .int .u64 a1, .int .u64 a2, .int .i64 a3, .int .u64 a4, .int .i64 a5, .int .i64 a6, .int .i64 a7, .int .i64 a8]) (.agg #[.int .i64 b0, .int .u64 b1, .int .u64 b2, .int .i64 b3, .int .u64 b4, .int .i64 b5, .int .i64 b6, .int .i64 b7, .int .i64 b8])).run Try.prog w = .ok (.bool (!((a0 == b0) && (a1 == b1) && (a2 == b2) && (a3 == b3) && (a4 == b4) && (a5 == b5) && (a6 == b6) && (a7 == b7) && (a8 == b8)))) w := by
  cases h0 : (a0 == b0) with
  | false => go_simp
  | true =>
    cases h1 : (a1 == b1) with
    | false => go_simp
    | true =>
      cases h2 : (a2 == b2) with
      | false => go_simp
      | true =>
        cases h3 : (a3 == b3) with
        | false => go_simp
        | true =>
          cases h4 : (a4 == b4) with
          | false => go_simp
          | true =>
            cases h5 : (a5 == b5) with
            | false => go_simp
            | true =>
              cases h6 : (a6 == b6) with
              | false => go_simp
              | true =>
                cases h7 : (a7 == b7) with
                | false => go_simp
                | true =>
                  cases h8 : (a8 == b8) with
                  | false => go_simp
                  | true =>
                    go_simp
theorem own_neq (x : Pnt) (w : World) : (binOp .neq 68 (.agg (valC x).toArray) (.agg (ownC x).toArray)).run Try.prog w = .ok (.bool (!ownB x)) w := by
  unfold ownC valC
  rcases kind_cases x.kind with e | e | e | e | e | ⟨n1, n2, n3, n4, n5⟩
  · rw [if_neg (by omega), if_pos (by omega)]
    refine (neq_val _ _ _ _ _ _ _ _ _ _ _ _ _ _ _ _ _ _ w).trans ?_
    congr 3
    unfold ownB
    rw [Bool.eq_iff_iff, decide_eq_true_eq]
    simp only [Bool.and_eq_true, beq_iff_eq, and_true]
    omega
  · rw [if_pos (by omega)]
    refine (neq_val _ _ _ _ _ _ _ _ _ _ _ _ _ _ _ _ _ _ w).trans ?_
    congr 3
    unfold ownB
    rw [Bool.eq_iff_iff, decide_eq_true_eq]
    simp only [Bool.and_eq_true, beq_iff_eq, true_and]
    omega
  · rw [if_neg (by omega), if_pos (by omega)]
    refine (neq_val _ _ _ _ _ _ _ _ _ _ _ _ _ _ _ _ _ _ w).trans ?_
    congr 3
    unfold ownB
    rw [Bool.eq_iff_iff, decide_eq_true_eq]
    simp only [Bool.and_eq_true, beq_iff_eq, and_true]
    omega
  · rw [if_neg (by omega), if_neg (by omega), if_neg (by omega), if_pos (by omega)]
    refine (neq_val _ _ _ _ _ _ _ _ _ _ _ _ _ _ _ _ _ _ w).trans ?_
    congr 3
    unfold ownB
    rw [Bool.eq_iff_iff, decide_eq_true_eq]
    simp only [Bool.and_eq_true, beq_iff_eq, and_true]
    omega
  · rw [if_neg (by omega), if_neg (by omega), if_pos (by omega)]
    refine (neq_val _ _ _ _ _ _ _ _ _ _ _ _ _ _ _ _ _ _ w).trans ?_
    congr 3
    unfold ownB
    rw [Bool.eq_iff_iff, decide_eq_true_eq]
    simp only [Bool.and_eq_true, beq_iff_eq, and_true]
    omega
  · rw [if_neg n1, if_neg (by omega), if_neg n5, if_neg n4]
    refine (neq_val _ _ _ _ _ _ _ _ _ _ _ _ _ _ _ _ _ _ w).trans ?_
    congr 3
    unfold ownB
    rw [Bool.eq_iff_iff, decide_eq_true_eq]
    simp only [Bool.and_eq_true, beq_iff_eq]
    omega
end Go.Proofs.Ytiiibhdohlpodaa
namespace Go.Proofs.Ytiiibhdohlpodaa
open Go.RowKit
attribute [local go_sem ↓] Go.wp_at_zero Go.wp_at_succ
end Go.Proofs.Ytiiibhdohlpodaa
namespace Go.Proofs.Ytiiibhdohlpodaa
open Go.RowKit
attribute [local go_sem ↓] Go.wp_at_zero Go.wp_at_succ
end Go.Proofs.Ytiiibhdohlpodaa
namespace Go.Proofs.Ytiiibhdohlpodaa
open Go.RowKit
attribute [local go_sem ↓] Go.wp_at_zero Go.wp_at_succ
section
variable {W w wr w' : World} {p q q3 : Nat} {o : Int} {v v' : Value} {xs : List Nat} {l rest rest' : List Int}
end
end Go.Proofs.Ytiiibhdohlpodaa
namespace Go.Proofs.Ytiiibhdohlpodaa
open Go.RowKit
attribute [local go_sem ↓] Go.wp_at_zero Go.wp_at_succ
end Go.Proofs.Ytiiibhdohlpodaa
namespace Go.Proofs.Ytiiibhdohlpodaa
open Go.RowKit
attribute [local go_sem ↓] Go.wp_at_zero Go.wp_at_succ
theorem exec_load_row {P : Program} {o : Oper} {a : Act} {w : World} (ty : TypeId) (x : Operand) (ho : o.op = .load ty x)
    (g : Nat) (hx : a.eval x = .pointer (some ⟨g, 0, none⟩)) (t : TypeId) (cs : Array Value) (fr : Nat × Nat) (d : TypeDesc) (hg : w.heap[g]? = some (.cells cs t fr))
    (hu : P.underlying ty = some d) (hd : (match d with | .struct _ | .array _ _ => true | _ => false) = true) (hi : (P.info? ty).map (·.size) = some cs.size) : (execOp a.eval o).run P w = .ok (.value (.agg cs)) w := by
  unfold execOp
  simp only [ho, hx, Instr.loadAt, Instr.sureAddr, Sem.run_bind, Sem.run_pure, Result.andThen_ok, run_loadVar_row w g t ty cs fr d hg hu hd hi]
theorem wpList_load_rowG {P : Program} {ops : Array Oper} {rest : List Oper} {o : Oper} {a : Act} {w : World} {Q : Exit → Act → World → Prop} (hw : Region.wanted o (yielded ops a.tmps) = true) (ty : TypeId) (x : Operand) (ho : o.op = .load ty x)
    (g : Nat) (hx : a.eval x = .pointer (some ⟨g, 0, none⟩)) (t : TypeId) (cs : Array Value) (fr : Nat × Nat) (d : TypeDesc) (hg : w.heap[g]? = some (.cells cs t fr))
    (hu : P.underlying ty = some d) (hd : (match d with | .struct _ | .array _ _ => true | _ => false) = true) (hi : (P.info? ty).map (·.size) = some cs.size)
    (h : wpList P ops Q rest (a.put o.dst (.agg cs)) w) : wpList P ops Q (o :: rest) a w := by
  refine wpList_step fun K hK => ?_
  simp only [hw, if_true]
  exact wp_load_row ty x ho g hx t cs fr d hg hu hd hi (hK _ _ h)
theorem point_info : (Try.prog.info? 37).map (·.size) = some 17 := by kernel_rfl
set_option maxRecDepth 100000 in
set_option maxHeartbeats 16000000 in
theorem pCheck_any (x : Pnt) (aa pa na : Option Addr) (ac pc nc : Nat) (w : World) (ha : PntAt w x aa ac (.slice pa x.h.pl.length pc) (.slice na x.h.nl.length nc)) (hok : x.ok) (hli : x.light) :
    Calls Try.prog 14 #[pntV x (.slice aa x.L.length ac) (.slice pa x.h.pl.length pc) (.slice na x.h.nl.length nc)] w fun e w' => e = .returned (.int .i64 ((chk x : Nat) : Int)) ∧ Kept (fun _ => False) w w' := by
  have HLC := Lib.hid (fun w' (k : Kept (fun _ => False) w w') => check_any x.name aa ac x.L w' (ha.ps.kept k) ha.cap (by have := hli.len; omega) (by have := hli.name; omega) (hli.sh.mono (by omega)))
  have HKR := Lib.hid (fun w' => kindIsRight_any x (.slice aa x.L.length ac) (.slice pa x.h.pl.length pc) (.slice na x.h.nl.length nc) w')
  have HTR := Lib.hid (fun w' => timesAreRight_any x (.slice aa x.L.length ac) (.slice pa x.h.pl.length pc) (.slice na x.h.nl.length nc) w')
  have HVO := Lib.hid (fun w' => valueOf_any x (.slice aa x.L.length ac) pa na pc nc w')
  have HOW := Lib.hid (fun w' => ownOf_any x (.slice aa x.L.length ac) pa na pc nc w')
  have HSU := Lib.hid (fun w' => isSum_any x.kind w')
  have HFI := Lib.hid (fun w' => finite_any x.re hok.re.1 hok.re.2 w')
  have HLE := Lib.hid (fun w' => less_any x.re 0 w')
  have HHC := Lib.hid (fun w' (k : Kept (fun _ => False) w w') => histCheck_any x.h (.slice pa x.h.pl.length pc) (.slice na x.h.nl.length nc) w' (ha.hist.on k) hok.h (by have := hli.pl; omega) (by have := hli.nl; omega))
  have hneq := fun w' => own_neq x w'
  obtain ⟨CK, hCK⟩ : ∃ E, E = chk x := ⟨_, rfl⟩
  have hchk := hCK
  unfold chk at hchk
  obtain ⟨E, hE⟩ : ∃ E, E = checkE x.name x.L := ⟨_, rfl⟩
  obtain ⟨KB, hKB⟩ : ∃ E, E = kindB x := ⟨_, rfl⟩
  obtain ⟨TB, hTB⟩ : ∃ E, E = timesB x := ⟨_, rfl⟩
  obtain ⟨OB, hOB⟩ : ∃ E, E = ownB x := ⟨_, rfl⟩
  obtain ⟨SB, hSB⟩ : ∃ E, E = sumB x := ⟨_, rfl⟩
  obtain ⟨FB, hFB⟩ : ∃ E, E = finI x.re := ⟨_, rfl⟩
  obtain ⟨LB, hLB⟩ : ∃ E, E = lessI x.re 0 := ⟨_, rfl⟩
  obtain ⟨HE, hHE⟩ : ∃ E, E = x.h.err := ⟨_, rfl⟩
  have hSB' : decide (x.kind = 1 ∨ x.kind = 2) = SB := hSB.symm
  rw [← hE, ← hKB, ← hTB, ← hOB, ← hSB, ← hFB, ← hLB, ← hHE] at hchk
  rw [← hCK]
  rw [← hE] at HLC
  rw [← hKB] at HKR
  rw [← hTB] at HTR
  rw [hSB'] at HSU
  rw [← hFB] at HFI
  rw [← hLB] at HLE
  rw [← hHE] at HHC
  rw [← hOB] at hneq
  clear hE hKB hTB hOB hSB hFB hLB hHE hCK hSB' ha hok hli
  have HCK := Lib.hid hchk
  obtain ⟨VC, hVC⟩ : ∃ V, V = (valC x).toArray := ⟨_, rfl⟩
  obtain ⟨OC, hOC⟩ : ∃ V, V = (ownC x).toArray := ⟨_, rfl⟩
  rw [← hVC] at HVO hneq
  rw [← hOC] at HOW hneq
  have HNEQ := Lib.hid hneq
  clear hVC hOC hchk hneq
  unfold pntV pntC at HKR HTR HVO HOW ⊢
  unfold histV at HHC
  obtain ⟨name, L, kind, temp, mono, start, time, whole, re, im, ⟨sc, ze, po, pl, no, nl⟩, flags⟩ := x
  dsimp only at HLC HKR HTR HVO HOW HSU HFI HLE HHC HCK ⊢
  obtain ⟨al, hal⟩ : ∃ m, m = L.length := ⟨_, rfl⟩
  obtain ⟨m, hm⟩ : ∃ m, m = pl.length := ⟨_, rfl⟩
  obtain ⟨n, hn⟩ : ∃ n, n = nl.length := ⟨_, rfl⟩
  rw [← hm, ← hn, ← hal] at HKR HTR HVO HOW ⊢
  rw [← hm, ← hn] at HHC
  rw [← hal] at HLC
  obtain ⟨q, hq⟩ : ∃ q, q = w.heap.size := ⟨_, rfl⟩
  obtain ⟨w1, hw1⟩ : ∃ w1, w1 = w.alloc (.cells #[.string name, .slice aa al ac, .int .i64 kind, .int .i64 temp, .bool mono, .int .i64 start, .int .i64 time, .int .i64 whole, .int .u64 re, .int .u64 im, .int .i64 sc, .int .u64 (ze : Int), .int .i64 po, .slice pa m pc, .int .i64 no, .slice na n nc, .int .i64 flags] 37) := ⟨_, rfl⟩
  have hb : w1.heap[q]? = some (.cells #[.string name, .slice aa al ac, .int .i64 kind, .int .i64 temp, .bool mono, .int .i64 start, .int .i64 time, .int .i64 whole, .int .u64 re, .int .u64 im, .int .i64 sc, .int .u64 (ze : Int), .int .i64 po, .slice pa m pc, .int .i64 no, .slice na n nc, .int .i64 flags] 37 (0, 0)) := by rw [hw1, hq]; exact heap_alloc_new w _
  have HBB : Hid (∀ w', Kept (fun _ => False) w1 w' → w'.heap[q]? = some (.cells #[.string name, .slice aa al ac, .int .i64 kind, .int .i64 temp, .bool mono, .int .i64 start, .int .i64 time, .int .i64 whole, .int .u64 re, .int .u64 im, .int .i64 sc, .int .u64 (ze : Int), .int .i64 po, .slice pa m pc, .int .i64 no, .slice na n nc, .int .i64 flags] 37 (0, 0))) := Lib.hid (fun w' k => k.same hb (fun x => x))
  have HPS : Hid (∀ w', Kept (fun _ => False) w1 w' → w'.cell? ⟨q, 0, none⟩ = some (.string name) ∧ w'.cell? ⟨q, 1, none⟩ = some (.slice aa al ac) ∧ w'.cell? ⟨q, 2, none⟩ = some (.int .i64 kind) ∧ w'.cell? ⟨q, 3, none⟩ = some (.int .i64 temp) ∧ w'.cell? ⟨q, 4, none⟩ = some (.bool mono) ∧ w'.cell? ⟨q, 5, none⟩ = some (.int .i64 start) ∧ w'.cell? ⟨q, 6, none⟩ = some (.int .i64 time) ∧ w'.cell? ⟨q, 7, none⟩ = some (.int .i64 whole) ∧ w'.cell? ⟨q, 8, none⟩ = some (.int .u64 re) ∧ w'.cell? ⟨q, 9, none⟩ = some (.int .u64 im) ∧ w'.cell? ⟨q, 10, none⟩ = some (.int .i64 sc) ∧ w'.cell? ⟨q, 11, none⟩ = some (.int .u64 (ze : Int)) ∧ w'.cell? ⟨q, 12, none⟩ = some (.int .i64 po) ∧ w'.cell? ⟨q, 13, none⟩ = some (.slice pa m pc) ∧ w'.cell? ⟨q, 14, none⟩ = some (.int .i64 no) ∧ w'.cell? ⟨q, 15, none⟩ = some (.slice na n nc) ∧ w'.cell? ⟨q, 16, none⟩ = some (.int .i64 flags)) := Lib.hid (fun w' k => by
    have b := k.same hb (fun x => x)
    exact ⟨cell_rowZ 0 _ b rfl, cell_rowZ 1 _ b rfl, cell_rowZ 2 _ b rfl, cell_rowZ 3 _ b rfl, cell_rowZ 4 _ b rfl, cell_rowZ 5 _ b rfl, cell_rowZ 6 _ b rfl, cell_rowZ 7 _ b rfl, cell_rowZ 8 _ b rfl, cell_rowZ 9 _ b rfl, cell_rowZ 10 _ b rfl, cell_rowZ 11 _ b rfl, cell_rowZ 12 _ b rfl, cell_rowZ 13 _ b rfl, cell_rowZ 14 _ b rfl, cell_rowZ 15 _ b rfl, cell_rowZ 16 _ b rfl⟩)
  have HSS : Hid (∀ w', Kept (fun _ => False) w1 w' → (fun w' => w'.heap[q]? = some (.cells #[.string name, .slice aa al ac, .int .i64 kind, .int .i64 temp, .bool mono, .int .i64 start, .int .i64 time, .int .i64 whole, .int .u64 re, .int .u64 im, .int .i64 sc, .int .u64 (ze : Int), .int .i64 po, .slice pa m pc, .int .i64 no, .slice na n nc, .int .i64 flags] 37 (0, 0)) ∧ w'.cell? ⟨q, 16, none⟩ = some (.int .i64 flags)) w') := Lib.hid (fun w' k => by
    have b := k.same hb (fun x => x)
    exact ⟨b, cell_rowZ 16 _ b rfl⟩)
  have HK1 : Hid (Kept (fun _ => False) w w1) := Lib.hid (by rw [hw1]; exact (Kept.refl _ _).alloc _)
  have HW1 := Lib.hid (And.intro hw1 hq)
  clear hb hw1 hq hal hm hn
  go_enter Try.func14, Try.ntmps14
  go_wp2_with fail
  rw [← HW1.out.1, ← HW1.out.2]
  refine (HLC.out w1 HK1.out).mono ?_
  rintro e w2 ⟨rfl, k2⟩
  have HK2 := Lib.hid k2
  clear k2
  by_cases hE : E = 0
  · subst hE
    have HB2 := Lib.hid (HBB.out w2 HK2.out)
    go_wp2_with (first
      | (refine wpList_load_row rfl 37 (.tmp 1) rfl q rfl 37 _ (0, 0) _ HB2.out Try.underlying37 rfl point_info ?_)
      | (refine wpList_load_rowG rfl 37 (.tmp 1) rfl q rfl 37 _ (0, 0) _ HB2.out Try.underlying37 rfl point_info ?_)
      | fail)
    refine (HKR.out w2).mono ?_
    rintro e w3 ⟨rfl, k3⟩
    have HK3 := Lib.hid (HK2.out.trans k3)
    have HB3 := Lib.hid (HBB.out w3 HK3.out)
    clear k3
    cases KB with
    | false =>
      have HX : Hid (CK = 14) := Lib.hid (by rw [HCK.out, if_neg (by decide), if_pos rfl])
      go_wp2
      go_ret
      exact ⟨by rw [HX.out]; rfl, HK1.out.trans HK3.out⟩
    | true =>
      obtain ⟨_, _, c2, _, c4, _, _, _, _, _, _, _, _, _, _, _, _⟩ := HPS.out w3 (HK3.out)
      cases mono with
      | true =>
        go_wp2_with fail
        refine (HSU.out w3).mono ?_
        rintro e w3' ⟨rfl, rfl⟩
        cases SB with
        | false =>
          have HX : Hid (CK = 1) := Lib.hid (by rw [HCK.out, if_neg (by decide), if_neg (by decide), if_pos (by simp)])
          go_wp2
          go_ret
          exact ⟨by rw [HX.out]; rfl, HK1.out.trans HK3.out⟩
        | true =>
          go_wp2_with (first
            | (refine wpList_load_row rfl 37 (.tmp 1) rfl q rfl 37 _ (0, 0) _ HB3.out Try.underlying37 rfl point_info ?_)
            | (refine wpList_load_rowG rfl 37 (.tmp 1) rfl q rfl 37 _ (0, 0) _ HB3.out Try.underlying37 rfl point_info ?_)
            | fail)
          refine (HTR.out w3).mono ?_
          rintro e w4 ⟨rfl, k4⟩
          have HK4u := Lib.hid (HK3.out.trans k4)
          have HK4 := Lib.hid (HK4u.out.drew)
          clear k4
          cases TB with
          | false =>
            have HX : Hid (CK = 1) := Lib.hid (by rw [HCK.out, if_neg (by decide), if_neg (by decide), if_pos (by simp)])
            go_wp2
            go_ret
            exact ⟨by rw [HX.out]; rfl, HK1.out.trans HK4u.out⟩
          | true =>
            have HC3 : Hid (CK = if OB = false ∨ flags < 0 ∨ 31 < flags then 3 else if FB = false then 11 else if whole < 0 ∨ LB = true then 1 else HE) := Lib.hid (by rw [HCK.out, if_neg (by decide), if_neg (by decide), if_neg (by simp)]; simp only [true_and])
            have HS4 := Lib.hid (HSS.out w4.drew HK4.out)
            clear c2 c4
            cases OB with
            | false =>
              have HX : Hid (CK = 3) := Lib.hid (by rw [HC3.out, if_pos (.inl rfl)])
              go_upto_region 8 with fail
              have hneq := HNEQ.out
              refine AnyBut.start (S := fun w' => w'.heap[q]? = some (.cells #[.string name, .slice aa al ac, .int .i64 kind, .int .i64 temp, .bool true, .int .i64 start, .int .i64 time, .int .i64 whole, .int .u64 re, .int .u64 im, .int .i64 sc, .int .u64 (ze : Int), .int .i64 po, .slice pa m pc, .int .i64 no, .slice na n nc, .int .i64 flags] 37 (0, 0)) ∧ w'.cell? ⟨q, 16, none⟩ = some (.int .i64 flags)) (k := 15) (by kernel_rfl) ?_
              refine AnyBut.takeS (i := 0) (v := ?v1) rfl (by kernel_rfl) (Nat.le_of_eq (by kernel_rfl)) (by kernel_rfl) (by kernel_rfl) (fun _ _ _ h => h) (HS4.out) (Or.inl ⟨by kernel_rfl, ?hy1⟩) ?r1
              case hy1 =>
                intro w hSw
                try dsimp only at hSw
                refine exec_load_row 37 (.tmp 1) ?_ q ?_ 37 _ (0, 0) _ hSw.1 Try.underlying37 rfl point_info
                · rfl
                · rfl
              try simp only [Act.put, List.getElem_toArray, List.getElem_cons_zero, List.setIfInBounds_toArray, List.set_cons_zero, List.set_cons_succ]
              refine AnyBut.takeS (i := 2) (v := ?v2) rfl (by kernel_rfl) (Nat.le_of_eq (by kernel_rfl)) (by kernel_rfl) (by kernel_rfl) (fun _ _ _ h => h) (HS4.out) (Or.inl ⟨by kernel_rfl, ?hy2⟩) ?r2
              case hy2 =>
                intro w hSw
                try dsimp only at hSw
                refine exec_load_row 37 (.tmp 1) ?_ q ?_ 37 _ (0, 0) _ hSw.1 Try.underlying37 rfl point_info
                · rfl
                · rfl
              try simp only [Act.put, List.getElem_toArray, List.getElem_cons_succ, List.getElem_cons_zero, List.setIfInBounds_toArray, List.set_cons_zero, List.set_cons_succ]
              refine AnyBut.one (i := 1) (by kernel_rfl) rfl (fun K hK => ?_)
              go_simp
              go_wp2_with fail
              refine (HVO.out _).mono ?_
              rintro e w5 ⟨rfl, k5⟩
              have HK5 := Lib.hid (HK4.out.trans k5)
              have HS5 := Lib.hid (HSS.out w5 HK5.out)
              clear k5
              go_wp2
              refine hK.out _ _ (HS5.out) ?_
              clear hK K
              try simp only [Act.put, List.getElem_toArray, List.getElem_cons_succ, List.getElem_cons_zero, List.setIfInBounds_toArray, List.set_cons_zero, List.set_cons_succ]
              refine AnyBut.one (i := 3) (by kernel_rfl) rfl (fun K hK => ?_)
              go_simp
              go_wp2_with fail
              refine (HOW.out _).mono ?_
              rintro e w6 ⟨rfl, k6⟩
              have HK6 := Lib.hid (HK5.out.trans k6)
              have HS6 := Lib.hid (HSS.out w6 HK6.out)
              clear k6
              go_wp2
              refine hK.out _ _ (HS6.out) ?_
              clear hK K
              try simp only [Act.put, List.getElem_toArray, List.getElem_cons_succ, List.getElem_cons_zero, List.setIfInBounds_toArray, List.set_cons_zero, List.set_cons_succ]
              refine AnyBut.takeS (i := 4) (v := ?v3) rfl (by kernel_rfl) (Nat.le_of_eq (by kernel_rfl)) (by kernel_rfl) (by kernel_rfl) (fun _ _ _ h => h) (HS6.out) (Or.inl ⟨by kernel_rfl, ?hy3⟩) ?r3
              case hy3 =>
                intro w hSw
                try dsimp only at hSw
                go_simp
                first | (obtain ⟨y0, y1⟩ := hSw; go_simp) | skip
                try with_reducible rfl
              try simp only [Act.put, List.getElem_toArray, List.getElem_cons_succ, List.getElem_cons_zero, List.setIfInBounds_toArray, List.set_cons_zero, List.set_cons_succ]
              refine AnyBut.takeS (i := 5) (v := ?v4) rfl (by kernel_rfl) (Nat.le_of_eq (by kernel_rfl)) (by kernel_rfl) (by kernel_rfl) (fun _ _ _ h => h) (HS6.out) (Or.inl ⟨by kernel_rfl, ?hy4⟩) ?r4
              case hy4 =>
                intro w hSw
                try dsimp only at hSw
                go_simp
                first | (obtain ⟨y0, y1⟩ := hSw; go_simp) | skip
                try with_reducible rfl
              try simp only [Act.put, List.getElem_toArray, List.getElem_cons_succ, List.getElem_cons_zero, List.setIfInBounds_toArray, List.set_cons_zero, List.set_cons_succ]
              refine AnyBut.takeS (i := 6) (v := undef) rfl (by kernel_rfl) (Nat.le_of_eq (by kernel_rfl)) (by kernel_rfl) (by kernel_rfl) (fun _ _ _ h => h) (HS6.out) (Or.inr ⟨by kernel_rfl, rfl⟩) ?r5
              try simp only [Act.put, List.getElem_toArray, List.getElem_cons_succ, List.getElem_cons_zero, List.setIfInBounds_toArray, List.set_cons_zero, List.set_cons_succ]
              refine AnyBut.takeS (i := 7) (v := undef) rfl (by kernel_rfl) (Nat.le_of_eq (by kernel_rfl)) (by kernel_rfl) (by kernel_rfl) (fun _ _ _ h => h) (HS6.out) (Or.inr ⟨by kernel_rfl, rfl⟩) ?r6
              try simp only [Act.put, List.getElem_toArray, List.getElem_cons_succ, List.getElem_cons_zero, List.setIfInBounds_toArray, List.set_cons_zero, List.set_cons_succ]
              refine AnyBut.takeS (i := 8) (v := undef) rfl (by kernel_rfl) (Nat.le_of_eq (by kernel_rfl)) (by kernel_rfl) (by kernel_rfl) (fun _ _ _ h => h) (HS6.out) (Or.inr ⟨by kernel_rfl, rfl⟩) ?r7
              try simp only [Act.put, List.getElem_toArray, List.getElem_cons_succ, List.getElem_cons_zero, List.setIfInBounds_toArray, List.set_cons_zero, List.set_cons_succ]
              refine AnyBut.takeS (i := 9) (v := ?v8) rfl (by kernel_rfl) (Nat.le_of_eq (by kernel_rfl)) (by kernel_rfl) (by kernel_rfl) (fun _ _ _ h => h) (HS6.out) (Or.inl ⟨by kernel_rfl, ?hy8⟩) ?r8
              case hy8 =>
                intro w hSw
                try dsimp only at hSw
                go_simp
                first | (obtain ⟨y0, y1⟩ := hSw; go_simp) | skip
                try with_reducible rfl
              try simp only [Act.put, List.getElem_toArray, List.getElem_cons_succ, List.getElem_cons_zero, List.setIfInBounds_toArray, List.set_cons_zero, List.set_cons_succ]
              refine AnyBut.takeS (i := 10) (v := ?v9) rfl (by kernel_rfl) (Nat.le_of_eq (by kernel_rfl)) (by kernel_rfl) (by kernel_rfl) (fun _ _ _ h => h) (HS6.out) (Or.inl ⟨by kernel_rfl, ?hy9⟩) ?r9
              case hy9 =>
                intro w hSw
                try dsimp only at hSw
                go_simp
                first | (obtain ⟨y0, y1⟩ := hSw; go_simp) | skip
                try with_reducible rfl
              try simp only [Act.put, List.getElem_toArray, List.getElem_cons_succ, List.getElem_cons_zero, List.setIfInBounds_toArray, List.set_cons_zero, List.set_cons_succ]
              refine AnyBut.takeS (i := 11) (v := undef) rfl (by kernel_rfl) (Nat.le_of_eq (by kernel_rfl)) (by kernel_rfl) (by kernel_rfl) (fun _ _ _ h => h) (HS6.out) (Or.inr ⟨by kernel_rfl, rfl⟩) ?r10
              try simp only [Act.put, List.getElem_toArray, List.getElem_cons_succ, List.getElem_cons_zero, List.setIfInBounds_toArray, List.set_cons_zero, List.set_cons_succ]
              refine AnyBut.takeS (i := 12) (v := undef) rfl (by kernel_rfl) (Nat.le_of_eq (by kernel_rfl)) (by kernel_rfl) (by kernel_rfl) (fun _ _ _ h => h) (HS6.out) (Or.inr ⟨by kernel_rfl, rfl⟩) ?r11
              try simp only [Act.put, List.getElem_toArray, List.getElem_cons_succ, List.getElem_cons_zero, List.setIfInBounds_toArray, List.set_cons_zero, List.set_cons_succ]
              refine AnyBut.takeS (i := 13) (v := undef) rfl (by kernel_rfl) (Nat.le_of_eq (by kernel_rfl)) (by kernel_rfl) (by kernel_rfl) (fun _ _ _ h => h) (HS6.out) (Or.inr ⟨by kernel_rfl, rfl⟩) ?r12
              try simp only [Act.put, List.getElem_toArray, List.getElem_cons_succ, List.getElem_cons_zero, List.setIfInBounds_toArray, List.set_cons_zero, List.set_cons_succ]
              refine AnyBut.takeS (i := 14) (v := ?v13) rfl (by kernel_rfl) (Nat.le_of_eq (by kernel_rfl)) (by kernel_rfl) (by kernel_rfl) (fun _ _ _ h => h) (HS6.out) (Or.inl ⟨by kernel_rfl, ?hy13⟩) ?r13
              case hy13 =>
                intro w hSw
                try dsimp only at hSw
                go_simp
                first | (obtain ⟨y0, y1⟩ := hSw; go_simp) | skip
                try with_reducible rfl
              try simp only [Act.put, List.getElem_toArray, List.getElem_cons_succ, List.getElem_cons_zero, List.setIfInBounds_toArray, List.set_cons_zero, List.set_cons_succ]
              refine AnyBut.done (by kernel_rfl) ?_
              go_wp2
              go_ret
              exact ⟨by rw [HX.out]; rfl, HK1.out.trans HK6.out⟩
            | true =>
              by_cases hf0 : flags < 0
              · have q2 : decide (flags < 0) = true := decide_eq_true hf0
                have HX : Hid (CK = 3) := Lib.hid (by rw [HC3.out, if_pos (.inr (.inl hf0))])
                clear hf0
                go_upto_region 8 with fail
                have hneq := HNEQ.out
                refine AnyBut.start (S := fun w' => w'.heap[q]? = some (.cells #[.string name, .slice aa al ac, .int .i64 kind, .int .i64 temp, .bool true, .int .i64 start, .int .i64 time, .int .i64 whole, .int .u64 re, .int .u64 im, .int .i64 sc, .int .u64 (ze : Int), .int .i64 po, .slice pa m pc, .int .i64 no, .slice na n nc, .int .i64 flags] 37 (0, 0)) ∧ w'.cell? ⟨q, 16, none⟩ = some (.int .i64 flags)) (k := 15) (by kernel_rfl) ?_
                refine AnyBut.takeS (i := 0) (v := ?v14) rfl (by kernel_rfl) (Nat.le_of_eq (by kernel_rfl)) (by kernel_rfl) (by kernel_rfl) (fun _ _ _ h => h) (HS4.out) (Or.inl ⟨by kernel_rfl, ?hy14⟩) ?r14
                case hy14 =>
                  intro w hSw
                  try dsimp only at hSw
                  refine exec_load_row 37 (.tmp 1) ?_ q ?_ 37 _ (0, 0) _ hSw.1 Try.underlying37 rfl point_info
                  · rfl
                  · rfl
                try simp only [Act.put, List.getElem_toArray, List.getElem_cons_zero, List.setIfInBounds_toArray, List.set_cons_zero, List.set_cons_succ]
                refine AnyBut.takeS (i := 2) (v := ?v15) rfl (by kernel_rfl) (Nat.le_of_eq (by kernel_rfl)) (by kernel_rfl) (by kernel_rfl) (fun _ _ _ h => h) (HS4.out) (Or.inl ⟨by kernel_rfl, ?hy15⟩) ?r15
                case hy15 =>
                  intro w hSw
                  try dsimp only at hSw
                  refine exec_load_row 37 (.tmp 1) ?_ q ?_ 37 _ (0, 0) _ hSw.1 Try.underlying37 rfl point_info
                  · rfl
                  · rfl
                try simp only [Act.put, List.getElem_toArray, List.getElem_cons_succ, List.getElem_cons_zero, List.setIfInBounds_toArray, List.set_cons_zero, List.set_cons_succ]
                refine AnyBut.one (i := 1) (by kernel_rfl) rfl (fun K hK => ?_)
                go_simp
                go_wp2_with fail
                refine (HVO.out _).mono ?_
                rintro e w5 ⟨rfl, k5⟩
                have HK5 := Lib.hid (HK4.out.trans k5)
                have HS5 := Lib.hid (HSS.out w5 HK5.out)
                clear k5
                go_wp2
                refine hK.out _ _ (HS5.out) ?_
                clear hK K
                try simp only [Act.put, List.getElem_toArray, List.getElem_cons_succ, List.getElem_cons_zero, List.setIfInBounds_toArray, List.set_cons_zero, List.set_cons_succ]
                refine AnyBut.one (i := 3) (by kernel_rfl) rfl (fun K hK => ?_)
                go_simp
                go_wp2_with fail
                refine (HOW.out _).mono ?_
                rintro e w6 ⟨rfl, k6⟩
                have HK6 := Lib.hid (HK5.out.trans k6)
                have HS6 := Lib.hid (HSS.out w6 HK6.out)
                clear k6
                go_wp2
                refine hK.out _ _ (HS6.out) ?_
                clear hK K
                try simp only [Act.put, List.getElem_toArray, List.getElem_cons_succ, List.getElem_cons_zero, List.setIfInBounds_toArray, List.set_cons_zero, List.set_cons_succ]
                refine AnyBut.takeS (i := 4) (v := ?v16) rfl (by kernel_rfl) (Nat.le_of_eq (by kernel_rfl)) (by kernel_rfl) (by kernel_rfl) (fun _ _ _ h => h) (HS6.out) (Or.inl ⟨by kernel_rfl, ?hy16⟩) ?r16
                case hy16 =>
                  intro w hSw
                  try dsimp only at hSw
                  go_simp
                  first | (obtain ⟨y0, y1⟩ := hSw; go_simp) | skip
                  try with_reducible rfl
                try simp only [Act.put, List.getElem_toArray, List.getElem_cons_succ, List.getElem_cons_zero, List.setIfInBounds_toArray, List.set_cons_zero, List.set_cons_succ]
                refine AnyBut.takeS (i := 5) (v := ?v17) rfl (by kernel_rfl) (Nat.le_of_eq (by kernel_rfl)) (by kernel_rfl) (by kernel_rfl) (fun _ _ _ h => h) (HS6.out) (Or.inl ⟨by kernel_rfl, ?hy17⟩) ?r17
                case hy17 =>
                  intro w hSw
                  try dsimp only at hSw
                  go_simp
                  first | (obtain ⟨y0, y1⟩ := hSw; go_simp) | skip
                  try with_reducible rfl
                try simp only [Act.put, List.getElem_toArray, List.getElem_cons_succ, List.getElem_cons_zero, List.setIfInBounds_toArray, List.set_cons_zero, List.set_cons_succ]
                refine AnyBut.takeS (i := 6) (v := ?v18) rfl (by kernel_rfl) (Nat.le_of_eq (by kernel_rfl)) (by kernel_rfl) (by kernel_rfl) (fun _ _ _ h => h) (HS6.out) (Or.inl ⟨by kernel_rfl, ?hy18⟩) ?r18
                case hy18 =>
                  intro w hSw
                  try dsimp only at hSw
                  go_simp
                  first | (obtain ⟨y0, y1⟩ := hSw; go_simp) | skip
                  try with_reducible rfl
                try simp only [Act.put, List.getElem_toArray, List.getElem_cons_succ, List.getElem_cons_zero, List.setIfInBounds_toArray, List.set_cons_zero, List.set_cons_succ]
                refine AnyBut.takeS (i := 7) (v := ?v19) rfl (by kernel_rfl) (Nat.le_of_eq (by kernel_rfl)) (by kernel_rfl) (by kernel_rfl) (fun _ _ _ h => h) (HS6.out) (Or.inl ⟨by kernel_rfl, ?hy19⟩) ?r19
                case hy19 =>
                  intro w hSw
                  try dsimp only at hSw
                  go_simp
                  first | (obtain ⟨y0, y1⟩ := hSw; go_simp) | skip
                  try with_reducible rfl
                try simp only [Act.put, List.getElem_toArray, List.getElem_cons_succ, List.getElem_cons_zero, List.setIfInBounds_toArray, List.set_cons_zero, List.set_cons_succ]
                refine AnyBut.takeS (i := 8) (v := ?v20) rfl (by kernel_rfl) (Nat.le_of_eq (by kernel_rfl)) (by kernel_rfl) (by kernel_rfl) (fun _ _ _ h => h) (HS6.out) (Or.inl ⟨by kernel_rfl, ?hy20⟩) ?r20
                case hy20 =>
                  intro w hSw
                  try dsimp only at hSw
                  go_simp
                  first | (obtain ⟨y0, y1⟩ := hSw; go_simp) | skip
                  try with_reducible rfl
                try simp only [Act.put, List.getElem_toArray, List.getElem_cons_succ, List.getElem_cons_zero, List.setIfInBounds_toArray, List.set_cons_zero, List.set_cons_succ]
                refine AnyBut.takeS (i := 9) (v := ?v21) rfl (by kernel_rfl) (Nat.le_of_eq (by kernel_rfl)) (by kernel_rfl) (by kernel_rfl) (fun _ _ _ h => h) (HS6.out) (Or.inl ⟨by kernel_rfl, ?hy21⟩) ?r21
                case hy21 =>
                  intro w hSw
                  try dsimp only at hSw
                  go_simp
                  first | (obtain ⟨y0, y1⟩ := hSw; go_simp) | skip
                  try with_reducible rfl
                try simp only [Act.put, List.getElem_toArray, List.getElem_cons_succ, List.getElem_cons_zero, List.setIfInBounds_toArray, List.set_cons_zero, List.set_cons_succ]
                refine AnyBut.takeS (i := 10) (v := ?v22) rfl (by kernel_rfl) (Nat.le_of_eq (by kernel_rfl)) (by kernel_rfl) (by kernel_rfl) (fun _ _ _ h => h) (HS6.out) (Or.inl ⟨by kernel_rfl, ?hy22⟩) ?r22
                case hy22 =>
                  intro w hSw
                  try dsimp only at hSw
                  go_simp
                  first | (obtain ⟨y0, y1⟩ := hSw; go_simp) | skip
                  try with_reducible rfl
                try simp only [Act.put, List.getElem_toArray, List.getElem_cons_succ, List.getElem_cons_zero, List.setIfInBounds_toArray, List.set_cons_zero, List.set_cons_succ]
                refine AnyBut.takeS (i := 11) (v := undef) rfl (by kernel_rfl) (Nat.le_of_eq (by kernel_rfl)) (by kernel_rfl) (by kernel_rfl) (fun _ _ _ h => h) (HS6.out) (Or.inr ⟨by kernel_rfl, rfl⟩) ?r23
                try simp only [Act.put, List.getElem_toArray, List.getElem_cons_succ, List.getElem_cons_zero, List.setIfInBounds_toArray, List.set_cons_zero, List.set_cons_succ]
                refine AnyBut.takeS (i := 12) (v := undef) rfl (by kernel_rfl) (Nat.le_of_eq (by kernel_rfl)) (by kernel_rfl) (by kernel_rfl) (fun _ _ _ h => h) (HS6.out) (Or.inr ⟨by kernel_rfl, rfl⟩) ?r24
                try simp only [Act.put, List.getElem_toArray, List.getElem_cons_succ, List.getElem_cons_zero, List.setIfInBounds_toArray, List.set_cons_zero, List.set_cons_succ]
                refine AnyBut.takeS (i := 13) (v := undef) rfl (by kernel_rfl) (Nat.le_of_eq (by kernel_rfl)) (by kernel_rfl) (by kernel_rfl) (fun _ _ _ h => h) (HS6.out) (Or.inr ⟨by kernel_rfl, rfl⟩) ?r25
                try simp only [Act.put, List.getElem_toArray, List.getElem_cons_succ, List.getElem_cons_zero, List.setIfInBounds_toArray, List.set_cons_zero, List.set_cons_succ]
                refine AnyBut.takeS (i := 14) (v := ?v26) rfl (by kernel_rfl) (Nat.le_of_eq (by kernel_rfl)) (by kernel_rfl) (by kernel_rfl) (fun _ _ _ h => h) (HS6.out) (Or.inl ⟨by kernel_rfl, ?hy26⟩) ?r26
                case hy26 =>
                  intro w hSw
                  try dsimp only at hSw
                  go_simp
                  first | (obtain ⟨y0, y1⟩ := hSw; go_simp) | skip
                  try with_reducible rfl
                try simp only [Act.put, List.getElem_toArray, List.getElem_cons_succ, List.getElem_cons_zero, List.setIfInBounds_toArray, List.set_cons_zero, List.set_cons_succ]
                refine AnyBut.done (by kernel_rfl) ?_
                go_wp2
                go_ret
                exact ⟨by rw [HX.out]; rfl, HK1.out.trans HK6.out⟩
              have q2 : decide (flags < 0) = false := decide_eq_false hf0
              by_cases hf1 : 31 < flags
              · have q3 : decide (31 < flags) = true := decide_eq_true hf1
                have HX : Hid (CK = 3) := Lib.hid (by rw [HC3.out, if_pos (.inr (.inr hf1))])
                clear hf0 hf1
                go_upto_region 8 with fail
                have hneq := HNEQ.out
                refine AnyBut.start (S := fun w' => w'.heap[q]? = some (.cells #[.string name, .slice aa al ac, .int .i64 kind, .int .i64 temp, .bool true, .int .i64 start, .int .i64 time, .int .i64 whole, .int .u64 re, .int .u64 im, .int .i64 sc, .int .u64 (ze : Int), .int .i64 po, .slice pa m pc, .int .i64 no, .slice na n nc, .int .i64 flags] 37 (0, 0)) ∧ w'.cell? ⟨q, 16, none⟩ = some (.int .i64 flags)) (k := 15) (by kernel_rfl) ?_
                refine AnyBut.takeS (i := 0) (v := ?v27) rfl (by kernel_rfl) (Nat.le_of_eq (by kernel_rfl)) (by kernel_rfl) (by kernel_rfl) (fun _ _ _ h => h) (HS4.out) (Or.inl ⟨by kernel_rfl, ?hy27⟩) ?r27
                case hy27 =>
                  intro w hSw
                  try dsimp only at hSw
                  refine exec_load_row 37 (.tmp 1) ?_ q ?_ 37 _ (0, 0) _ hSw.1 Try.underlying37 rfl point_info
                  · rfl
                  · rfl
                try simp only [Act.put, List.getElem_toArray, List.getElem_cons_zero, List.setIfInBounds_toArray, List.set_cons_zero, List.set_cons_succ]
                refine AnyBut.takeS (i := 2) (v := ?v28) rfl (by kernel_rfl) (Nat.le_of_eq (by kernel_rfl)) (by kernel_rfl) (by kernel_rfl) (fun _ _ _ h => h) (HS4.out) (Or.inl ⟨by kernel_rfl, ?hy28⟩) ?r28
                case hy28 =>
                  intro w hSw
                  try dsimp only at hSw
                  refine exec_load_row 37 (.tmp 1) ?_ q ?_ 37 _ (0, 0) _ hSw.1 Try.underlying37 rfl point_info
                  · rfl
                  · rfl
                try simp only [Act.put, List.getElem_toArray, List.getElem_cons_succ, List.getElem_cons_zero, List.setIfInBounds_toArray, List.set_cons_zero, List.set_cons_succ]
                refine AnyBut.one (i := 1) (by kernel_rfl) rfl (fun K hK => ?_)
                go_simp
                go_wp2_with fail
                refine (HVO.out _).mono ?_
                rintro e w5 ⟨rfl, k5⟩
                have HK5 := Lib.hid (HK4.out.trans k5)
                have HS5 := Lib.hid (HSS.out w5 HK5.out)
                clear k5
                go_wp2
                refine hK.out _ _ (HS5.out) ?_
                clear hK K
                try simp only [Act.put, List.getElem_toArray, List.getElem_cons_succ, List.getElem_cons_zero, List.setIfInBounds_toArray, List.set_cons_zero, List.set_cons_succ]
                refine AnyBut.one (i := 3) (by kernel_rfl) rfl (fun K hK => ?_)
                go_simp
                go_wp2_with fail
                refine (HOW.out _).mono ?_
                rintro e w6 ⟨rfl, k6⟩
                have HK6 := Lib.hid (HK5.out.trans k6)
                have HS6 := Lib.hid (HSS.out w6 HK6.out)
                clear k6
                go_wp2
                refine hK.out _ _ (HS6.out) ?_
                clear hK K
                try simp only [Act.put, List.getElem_toArray, List.getElem_cons_succ, List.getElem_cons_zero, List.setIfInBounds_toArray, List.set_cons_zero, List.set_cons_succ]
                refine AnyBut.takeS (i := 4) (v := ?v29) rfl (by kernel_rfl) (Nat.le_of_eq (by kernel_rfl)) (by kernel_rfl) (by kernel_rfl) (fun _ _ _ h => h) (HS6.out) (Or.inl ⟨by kernel_rfl, ?hy29⟩) ?r29
                case hy29 =>
                  intro w hSw
                  try dsimp only at hSw
                  go_simp
                  first | (obtain ⟨y0, y1⟩ := hSw; go_simp) | skip
                  try with_reducible rfl
                try simp only [Act.put, List.getElem_toArray, List.getElem_cons_succ, List.getElem_cons_zero, List.setIfInBounds_toArray, List.set_cons_zero, List.set_cons_succ]
                refine AnyBut.takeS (i := 5) (v := ?v30) rfl (by kernel_rfl) (Nat.le_of_eq (by kernel_rfl)) (by kernel_rfl) (by kernel_rfl) (fun _ _ _ h => h) (HS6.out) (Or.inl ⟨by kernel_rfl, ?hy30⟩) ?r30
                case hy30 =>
                  intro w hSw
                  try dsimp only at hSw
                  go_simp
                  first | (obtain ⟨y0, y1⟩ := hSw; go_simp) | skip
                  try with_reducible rfl
                try simp only [Act.put, List.getElem_toArray, List.getElem_cons_succ, List.getElem_cons_zero, List.setIfInBounds_toArray, List.set_cons_zero, List.set_cons_succ]
                refine AnyBut.takeS (i := 6) (v := ?v31) rfl (by kernel_rfl) (Nat.le_of_eq (by kernel_rfl)) (by kernel_rfl) (by kernel_rfl) (fun _ _ _ h => h) (HS6.out) (Or.inl ⟨by kernel_rfl, ?hy31⟩) ?r31
                case hy31 =>
                  intro w hSw
                  try dsimp only at hSw
                  go_simp
                  first | (obtain ⟨y0, y1⟩ := hSw; go_simp) | skip
                  try with_reducible rfl
                try simp only [Act.put, List.getElem_toArray, List.getElem_cons_succ, List.getElem_cons_zero, List.setIfInBounds_toArray, List.set_cons_zero, List.set_cons_succ]
                refine AnyBut.takeS (i := 7) (v := ?v32) rfl (by kernel_rfl) (Nat.le_of_eq (by kernel_rfl)) (by kernel_rfl) (by kernel_rfl) (fun _ _ _ h => h) (HS6.out) (Or.inl ⟨by kernel_rfl, ?hy32⟩) ?r32
                case hy32 =>
                  intro w hSw
                  try dsimp only at hSw
                  go_simp
                  first | (obtain ⟨y0, y1⟩ := hSw; go_simp) | skip
                  try with_reducible rfl
                try simp only [Act.put, List.getElem_toArray, List.getElem_cons_succ, List.getElem_cons_zero, List.setIfInBounds_toArray, List.set_cons_zero, List.set_cons_succ]
                refine AnyBut.takeS (i := 8) (v := ?v33) rfl (by kernel_rfl) (Nat.le_of_eq (by kernel_rfl)) (by kernel_rfl) (by kernel_rfl) (fun _ _ _ h => h) (HS6.out) (Or.inl ⟨by kernel_rfl, ?hy33⟩) ?r33
                case hy33 =>
                  intro w hSw
                  try dsimp only at hSw
                  go_simp
                  first | (obtain ⟨y0, y1⟩ := hSw; go_simp) | skip
                  try with_reducible rfl
                try simp only [Act.put, List.getElem_toArray, List.getElem_cons_succ, List.getElem_cons_zero, List.setIfInBounds_toArray, List.set_cons_zero, List.set_cons_succ]
                refine AnyBut.takeS (i := 9) (v := ?v34) rfl (by kernel_rfl) (Nat.le_of_eq (by kernel_rfl)) (by kernel_rfl) (by kernel_rfl) (fun _ _ _ h => h) (HS6.out) (Or.inl ⟨by kernel_rfl, ?hy34⟩) ?r34
                case hy34 =>
                  intro w hSw
                  try dsimp only at hSw
                  go_simp
                  first | (obtain ⟨y0, y1⟩ := hSw; go_simp) | skip
                  try with_reducible rfl
                try simp only [Act.put, List.getElem_toArray, List.getElem_cons_succ, List.getElem_cons_zero, List.setIfInBounds_toArray, List.set_cons_zero, List.set_cons_succ]
                refine AnyBut.takeS (i := 10) (v := ?v35) rfl (by kernel_rfl) (Nat.le_of_eq (by kernel_rfl)) (by kernel_rfl) (by kernel_rfl) (fun _ _ _ h => h) (HS6.out) (Or.inl ⟨by kernel_rfl, ?hy35⟩) ?r35
                case hy35 =>
                  intro w hSw
                  try dsimp only at hSw
                  go_simp
                  first | (obtain ⟨y0, y1⟩ := hSw; go_simp) | skip
                  try with_reducible rfl
                try simp only [Act.put, List.getElem_toArray, List.getElem_cons_succ, List.getElem_cons_zero, List.setIfInBounds_toArray, List.set_cons_zero, List.set_cons_succ]
                refine AnyBut.takeS (i := 11) (v := ?v36) rfl (by kernel_rfl) (Nat.le_of_eq (by kernel_rfl)) (by kernel_rfl) (by kernel_rfl) (fun _ _ _ h => h) (HS6.out) (Or.inl ⟨by kernel_rfl, ?hy36⟩) ?r36
                case hy36 =>
                  intro w hSw
                  try dsimp only at hSw
                  go_simp
                  first | (obtain ⟨y0, y1⟩ := hSw; go_simp) | skip
                  try with_reducible rfl
                try simp only [Act.put, List.getElem_toArray, List.getElem_cons_succ, List.getElem_cons_zero, List.setIfInBounds_toArray, List.set_cons_zero, List.set_cons_succ]
                refine AnyBut.takeS (i := 12) (v := ?v37) rfl (by kernel_rfl) (Nat.le_of_eq (by kernel_rfl)) (by kernel_rfl) (by kernel_rfl) (fun _ _ _ h => h) (HS6.out) (Or.inl ⟨by kernel_rfl, ?hy37⟩) ?r37
                case hy37 =>
                  intro w hSw
                  try dsimp only at hSw
                  go_simp
                  first | (obtain ⟨y0, y1⟩ := hSw; go_simp) | skip
                  try with_reducible rfl
                try simp only [Act.put, List.getElem_toArray, List.getElem_cons_succ, List.getElem_cons_zero, List.setIfInBounds_toArray, List.set_cons_zero, List.set_cons_succ]
                refine AnyBut.takeS (i := 13) (v := ?v38) rfl (by kernel_rfl) (Nat.le_of_eq (by kernel_rfl)) (by kernel_rfl) (by kernel_rfl) (fun _ _ _ h => h) (HS6.out) (Or.inl ⟨by kernel_rfl, ?hy38⟩) ?r38
                case hy38 =>
                  intro w hSw
                  try dsimp only at hSw
                  go_simp
                  first | (obtain ⟨y0, y1⟩ := hSw; go_simp) | skip
                  try with_reducible rfl
                try simp only [Act.put, List.getElem_toArray, List.getElem_cons_succ, List.getElem_cons_zero, List.setIfInBounds_toArray, List.set_cons_zero, List.set_cons_succ]
                refine AnyBut.takeS (i := 14) (v := ?v39) rfl (by kernel_rfl) (Nat.le_of_eq (by kernel_rfl)) (by kernel_rfl) (by kernel_rfl) (fun _ _ _ h => h) (HS6.out) (Or.inl ⟨by kernel_rfl, ?hy39⟩) ?r39
                case hy39 =>
                  intro w hSw
                  try dsimp only at hSw
                  go_simp
                  first | (obtain ⟨y0, y1⟩ := hSw; go_simp) | skip
                  try with_reducible rfl
                try simp only [Act.put, List.getElem_toArray, List.getElem_cons_succ, List.getElem_cons_zero, List.setIfInBounds_toArray, List.set_cons_zero, List.set_cons_succ]
                refine AnyBut.done (by kernel_rfl) ?_
                go_wp2
                go_ret
                exact ⟨by rw [HX.out]; rfl, HK1.out.trans HK6.out⟩
              have q3 : decide (31 < flags) = false := decide_eq_false hf1
              have HC4 := Lib.hid (HC3.out.trans (if_neg (fun x => x.elim (fun h => by cases h) (fun x => x.elim hf0 hf1))))
              clear hf0 hf1
              go_upto_region 8 with fail
              have hneq := HNEQ.out
              refine AnyBut.start (S := fun w' => w'.heap[q]? = some (.cells #[.string name, .slice aa al ac, .int .i64 kind, .int .i64 temp, .bool true, .int .i64 start, .int .i64 time, .int .i64 whole, .int .u64 re, .int .u64 im, .int .i64 sc, .int .u64 (ze : Int), .int .i64 po, .slice pa m pc, .int .i64 no, .slice na n nc, .int .i64 flags] 37 (0, 0)) ∧ w'.cell? ⟨q, 16, none⟩ = some (.int .i64 flags)) (k := 15) (by kernel_rfl) ?_
              refine AnyBut.takeS (i := 0) (v := ?v40) rfl (by kernel_rfl) (Nat.le_of_eq (by kernel_rfl)) (by kernel_rfl) (by kernel_rfl) (fun _ _ _ h => h) (HS4.out) (Or.inl ⟨by kernel_rfl, ?hy40⟩) ?r40
              case hy40 =>
                intro w hSw
                try dsimp only at hSw
                refine exec_load_row 37 (.tmp 1) ?_ q ?_ 37 _ (0, 0) _ hSw.1 Try.underlying37 rfl point_info
                · rfl
                · rfl
              try simp only [Act.put, List.getElem_toArray, List.getElem_cons_zero, List.setIfInBounds_toArray, List.set_cons_zero, List.set_cons_succ]
              refine AnyBut.takeS (i := 2) (v := ?v41) rfl (by kernel_rfl) (Nat.le_of_eq (by kernel_rfl)) (by kernel_rfl) (by kernel_rfl) (fun _ _ _ h => h) (HS4.out) (Or.inl ⟨by kernel_rfl, ?hy41⟩) ?r41
              case hy41 =>
                intro w hSw
                try dsimp only at hSw
                refine exec_load_row 37 (.tmp 1) ?_ q ?_ 37 _ (0, 0) _ hSw.1 Try.underlying37 rfl point_info
                · rfl
                · rfl
              try simp only [Act.put, List.getElem_toArray, List.getElem_cons_succ, List.getElem_cons_zero, List.setIfInBounds_toArray, List.set_cons_zero, List.set_cons_succ]
              refine AnyBut.one (i := 1) (by kernel_rfl) rfl (fun K hK => ?_)
              go_simp
              go_wp2_with fail
              refine (HVO.out _).mono ?_
              rintro e w5 ⟨rfl, k5⟩
              have HK5 := Lib.hid (HK4.out.trans k5)
              have HS5 := Lib.hid (HSS.out w5 HK5.out)
              clear k5
              go_wp2
              refine hK.out _ _ (HS5.out) ?_
              clear hK K
              try simp only [Act.put, List.getElem_toArray, List.getElem_cons_succ, List.getElem_cons_zero, List.setIfInBounds_toArray, List.set_cons_zero, List.set_cons_succ]
              refine AnyBut.one (i := 3) (by kernel_rfl) rfl (fun K hK => ?_)
              go_simp
              go_wp2_with fail
              refine (HOW.out _).mono ?_
              rintro e w6 ⟨rfl, k6⟩
              have HK6 := Lib.hid (HK5.out.trans k6)
              have HS6 := Lib.hid (HSS.out w6 HK6.out)
              clear k6
              go_wp2
              refine hK.out _ _ (HS6.out) ?_
              clear hK K
              try simp only [Act.put, List.getElem_toArray, List.getElem_cons_succ, List.getElem_cons_zero, List.setIfInBounds_toArray, List.set_cons_zero, List.set_cons_succ]
              refine AnyBut.takeS (i := 4) (v := ?v42) rfl (by kernel_rfl) (Nat.le_of_eq (by kernel_rfl)) (by kernel_rfl) (by kernel_rfl) (fun _ _ _ h => h) (HS6.out) (Or.inl ⟨by kernel_rfl, ?hy42⟩) ?r42
              case hy42 =>
                intro w hSw
                try dsimp only at hSw
                go_simp
                first | (obtain ⟨y0, y1⟩ := hSw; go_simp) | skip
                try with_reducible rfl
              try simp only [Act.put, List.getElem_toArray, List.getElem_cons_succ, List.getElem_cons_zero, List.setIfInBounds_toArray, List.set_cons_zero, List.set_cons_succ]
              refine AnyBut.takeS (i := 5) (v := ?v43) rfl (by kernel_rfl) (Nat.le_of_eq (by kernel_rfl)) (by kernel_rfl) (by kernel_rfl) (fun _ _ _ h => h) (HS6.out) (Or.inl ⟨by kernel_rfl, ?hy43⟩) ?r43
              case hy43 =>
                intro w hSw
                try dsimp only at hSw
                go_simp
                first | (obtain ⟨y0, y1⟩ := hSw; go_simp) | skip
                try with_reducible rfl
              try simp only [Act.put, List.getElem_toArray, List.getElem_cons_succ, List.getElem_cons_zero, List.setIfInBounds_toArray, List.set_cons_zero, List.set_cons_succ]
              refine AnyBut.takeS (i := 6) (v := ?v44) rfl (by kernel_rfl) (Nat.le_of_eq (by kernel_rfl)) (by kernel_rfl) (by kernel_rfl) (fun _ _ _ h => h) (HS6.out) (Or.inl ⟨by kernel_rfl, ?hy44⟩) ?r44
              case hy44 =>
                intro w hSw
                try dsimp only at hSw
                go_simp
                first | (obtain ⟨y0, y1⟩ := hSw; go_simp) | skip
                try with_reducible rfl
              try simp only [Act.put, List.getElem_toArray, List.getElem_cons_succ, List.getElem_cons_zero, List.setIfInBounds_toArray, List.set_cons_zero, List.set_cons_succ]
              refine AnyBut.takeS (i := 7) (v := ?v45) rfl (by kernel_rfl) (Nat.le_of_eq (by kernel_rfl)) (by kernel_rfl) (by kernel_rfl) (fun _ _ _ h => h) (HS6.out) (Or.inl ⟨by kernel_rfl, ?hy45⟩) ?r45
              case hy45 =>
                intro w hSw
                try dsimp only at hSw
                go_simp
                first | (obtain ⟨y0, y1⟩ := hSw; go_simp) | skip
                try with_reducible rfl
              try simp only [Act.put, List.getElem_toArray, List.getElem_cons_succ, List.getElem_cons_zero, List.setIfInBounds_toArray, List.set_cons_zero, List.set_cons_succ]
              refine AnyBut.takeS (i := 8) (v := ?v46) rfl (by kernel_rfl) (Nat.le_of_eq (by kernel_rfl)) (by kernel_rfl) (by kernel_rfl) (fun _ _ _ h => h) (HS6.out) (Or.inl ⟨by kernel_rfl, ?hy46⟩) ?r46
              case hy46 =>
                intro w hSw
                try dsimp only at hSw
                go_simp
                first | (obtain ⟨y0, y1⟩ := hSw; go_simp) | skip
                try with_reducible rfl
              try simp only [Act.put, List.getElem_toArray, List.getElem_cons_succ, List.getElem_cons_zero, List.setIfInBounds_toArray, List.set_cons_zero, List.set_cons_succ]
              refine AnyBut.takeS (i := 9) (v := ?v47) rfl (by kernel_rfl) (Nat.le_of_eq (by kernel_rfl)) (by kernel_rfl) (by kernel_rfl) (fun _ _ _ h => h) (HS6.out) (Or.inl ⟨by kernel_rfl, ?hy47⟩) ?r47
              case hy47 =>
                intro w hSw
                try dsimp only at hSw
                go_simp
                first | (obtain ⟨y0, y1⟩ := hSw; go_simp) | skip
                try with_reducible rfl
              try simp only [Act.put, List.getElem_toArray, List.getElem_cons_succ, List.getElem_cons_zero, List.setIfInBounds_toArray, List.set_cons_zero, List.set_cons_succ]
              refine AnyBut.takeS (i := 10) (v := ?v48) rfl (by kernel_rfl) (Nat.le_of_eq (by kernel_rfl)) (by kernel_rfl) (by kernel_rfl) (fun _ _ _ h => h) (HS6.out) (Or.inl ⟨by kernel_rfl, ?hy48⟩) ?r48
              case hy48 =>
                intro w hSw
                try dsimp only at hSw
                go_simp
                first | (obtain ⟨y0, y1⟩ := hSw; go_simp) | skip
                try with_reducible rfl
              try simp only [Act.put, List.getElem_toArray, List.getElem_cons_succ, List.getElem_cons_zero, List.setIfInBounds_toArray, List.set_cons_zero, List.set_cons_succ]
              refine AnyBut.takeS (i := 11) (v := ?v49) rfl (by kernel_rfl) (Nat.le_of_eq (by kernel_rfl)) (by kernel_rfl) (by kernel_rfl) (fun _ _ _ h => h) (HS6.out) (Or.inl ⟨by kernel_rfl, ?hy49⟩) ?r49
              case hy49 =>
                intro w hSw
                try dsimp only at hSw
                go_simp
                first | (obtain ⟨y0, y1⟩ := hSw; go_simp) | skip
                try with_reducible rfl
              try simp only [Act.put, List.getElem_toArray, List.getElem_cons_succ, List.getElem_cons_zero, List.setIfInBounds_toArray, List.set_cons_zero, List.set_cons_succ]
              refine AnyBut.takeS (i := 12) (v := ?v50) rfl (by kernel_rfl) (Nat.le_of_eq (by kernel_rfl)) (by kernel_rfl) (by kernel_rfl) (fun _ _ _ h => h) (HS6.out) (Or.inl ⟨by kernel_rfl, ?hy50⟩) ?r50
              case hy50 =>
                intro w hSw
                try dsimp only at hSw
                go_simp
                first | (obtain ⟨y0, y1⟩ := hSw; go_simp) | skip
                try with_reducible rfl
              try simp only [Act.put, List.getElem_toArray, List.getElem_cons_succ, List.getElem_cons_zero, List.setIfInBounds_toArray, List.set_cons_zero, List.set_cons_succ]
              refine AnyBut.takeS (i := 13) (v := ?v51) rfl (by kernel_rfl) (Nat.le_of_eq (by kernel_rfl)) (by kernel_rfl) (by kernel_rfl) (fun _ _ _ h => h) (HS6.out) (Or.inl ⟨by kernel_rfl, ?hy51⟩) ?r51
              case hy51 =>
                intro w hSw
                try dsimp only at hSw
                go_simp
                first | (obtain ⟨y0, y1⟩ := hSw; go_simp) | skip
                try with_reducible rfl
              try simp only [Act.put, List.getElem_toArray, List.getElem_cons_succ, List.getElem_cons_zero, List.setIfInBounds_toArray, List.set_cons_zero, List.set_cons_succ]
              refine AnyBut.takeS (i := 14) (v := ?v52) rfl (by kernel_rfl) (Nat.le_of_eq (by kernel_rfl)) (by kernel_rfl) (by kernel_rfl) (fun _ _ _ h => h) (HS6.out) (Or.inl ⟨by kernel_rfl, ?hy52⟩) ?r52
              case hy52 =>
                intro w hSw
                try dsimp only at hSw
                go_simp
                first | (obtain ⟨y0, y1⟩ := hSw; go_simp) | skip
                try with_reducible rfl
              try simp only [Act.put, List.getElem_toArray, List.getElem_cons_succ, List.getElem_cons_zero, List.setIfInBounds_toArray, List.set_cons_zero, List.set_cons_succ]
              refine AnyBut.done (by kernel_rfl) ?_
              obtain ⟨_, _, _, _, c4, _, _, c7, c8, _, c10, c11, c12, c13, c14, c15, _⟩ := HPS.out w6 (HK6.out)
              go_wp2_with fail
              refine (HFI.out w6).mono ?_
              rintro e w6' ⟨rfl, rfl⟩
              cases FB with
              | false =>
                have HX : Hid (CK = 11) := Lib.hid (by rw [HC4.out, if_pos rfl])
                go_wp2
                go_ret
                exact ⟨by rw [HX.out]; rfl, HK1.out.trans HK6.out⟩
              | true =>
                have HC5 := Lib.hid (HC4.out.trans (if_neg (by decide)))
                by_cases hw0 : whole < 0
                · have q4 : decide (whole < 0) = true := decide_eq_true hw0
                  have HX : Hid (CK = 1) := Lib.hid (by rw [HC5.out, if_pos (.inl hw0)])
                  clear hw0
                  go_wp2
                  go_ret
                  exact ⟨by rw [HX.out]; rfl, HK1.out.trans HK6.out⟩
                have q4 : decide (whole < 0) = false := decide_eq_false hw0
                have HC6 : Hid (CK = if LB = true then 1 else HE) := Lib.hid (by rw [HC5.out]; simp [hw0])
                clear hw0
                go_wp2_with fail
                refine (HLE.out w6).mono ?_
                rintro e w6' ⟨rfl, rfl⟩
                cases LB with
                | true =>
                  have HX : Hid (CK = 1) := Lib.hid (by rw [HC6.out, if_pos rfl])
                  go_wp2
                  go_ret
                  exact ⟨by rw [HX.out]; rfl, HK1.out.trans HK6.out⟩
                | false =>
                  have HX : Hid (CK = HE) := Lib.hid (HC6.out.trans (if_neg (by decide)))
                  go_wp2_with fail
                  refine (HHC.out w6 (HK1.out.trans HK6.out)).mono ?_
                  rintro e w7 ⟨rfl, k7⟩
                  have HK7 := Lib.hid (HK6.out.trans k7)
                  clear k7
                  go_wp2
                  go_ret
                  exact ⟨by rw [HX.out]; rfl, HK1.out.trans HK7.out⟩
      | false =>
        go_wp2_with (first
          | (refine wpList_load_row rfl 37 (.tmp 1) rfl q rfl 37 _ (0, 0) _ HB3.out Try.underlying37 rfl point_info ?_)
          | (refine wpList_load_rowG rfl 37 (.tmp 1) rfl q rfl 37 _ (0, 0) _ HB3.out Try.underlying37 rfl point_info ?_)
          | fail)
        refine (HTR.out w3).mono ?_
        rintro e w4 ⟨rfl, k4⟩
        have HK4u := Lib.hid (HK3.out.trans k4)
        have HK4 := Lib.hid (HK4u.out.drew)
        clear k4
        cases TB with
        | false =>
          have HX : Hid (CK = 1) := Lib.hid (by rw [HCK.out, if_neg (by decide), if_neg (by decide), if_pos (by simp)])
          go_wp2
          go_ret
          exact ⟨by rw [HX.out]; rfl, HK1.out.trans HK4u.out⟩
        | true =>
          have HC3 : Hid (CK = if OB = false ∨ flags < 0 ∨ 31 < flags then 3 else HE) := Lib.hid (by rw [HCK.out, if_neg (by decide), if_neg (by decide), if_neg (by simp)]; simp)
          have HS4 := Lib.hid (HSS.out w4.drew HK4.out)
          clear c2 c4
          cases OB with
          | false =>
            have HX : Hid (CK = 3) := Lib.hid (by rw [HC3.out, if_pos (.inl rfl)])
            go_upto_region 8 with fail
            have hneq := HNEQ.out
            refine AnyBut.start (S := fun w' => w'.heap[q]? = some (.cells #[.string name, .slice aa al ac, .int .i64 kind, .int .i64 temp, .bool false, .int .i64 start, .int .i64 time, .int .i64 whole, .int .u64 re, .int .u64 im, .int .i64 sc, .int .u64 (ze : Int), .int .i64 po, .slice pa m pc, .int .i64 no, .slice na n nc, .int .i64 flags] 37 (0, 0)) ∧ w'.cell? ⟨q, 16, none⟩ = some (.int .i64 flags)) (k := 15) (by kernel_rfl) ?_
            refine AnyBut.takeS (i := 0) (v := ?v53) rfl (by kernel_rfl) (Nat.le_of_eq (by kernel_rfl)) (by kernel_rfl) (by kernel_rfl) (fun _ _ _ h => h) (HS4.out) (Or.inl ⟨by kernel_rfl, ?hy53⟩) ?r53
            case hy53 =>
              intro w hSw
              try dsimp only at hSw
              refine exec_load_row 37 (.tmp 1) ?_ q ?_ 37 _ (0, 0) _ hSw.1 Try.underlying37 rfl point_info
              · rfl
              · rfl
            try simp only [Act.put, List.getElem_toArray, List.getElem_cons_zero, List.setIfInBounds_toArray, List.set_cons_zero, List.set_cons_succ]
            refine AnyBut.takeS (i := 2) (v := ?v54) rfl (by kernel_rfl) (Nat.le_of_eq (by kernel_rfl)) (by kernel_rfl) (by kernel_rfl) (fun _ _ _ h => h) (HS4.out) (Or.inl ⟨by kernel_rfl, ?hy54⟩) ?r54
            case hy54 =>
              intro w hSw
              try dsimp only at hSw
              refine exec_load_row 37 (.tmp 1) ?_ q ?_ 37 _ (0, 0) _ hSw.1 Try.underlying37 rfl point_info
              · rfl
              · rfl
            try simp only [Act.put, List.getElem_toArray, List.getElem_cons_succ, List.getElem_cons_zero, List.setIfInBounds_toArray, List.set_cons_zero, List.set_cons_succ]
            refine AnyBut.one (i := 1) (by kernel_rfl) rfl (fun K hK => ?_)
            go_simp
            go_wp2_with fail
            refine (HVO.out _).mono ?_
            rintro e w5 ⟨rfl, k5⟩
            have HK5 := Lib.hid (HK4.out.trans k5)
            have HS5 := Lib.hid (HSS.out w5 HK5.out)
            clear k5
            go_wp2
            refine hK.out _ _ (HS5.out) ?_
            clear hK K
            try simp only [Act.put, List.getElem_toArray, List.getElem_cons_succ, List.getElem_cons_zero, List.setIfInBounds_toArray, List.set_cons_zero, List.set_cons_succ]
            refine AnyBut.one (i := 3) (by kernel_rfl) rfl (fun K hK => ?_)
            go_simp
            go_wp2_with fail
            refine (HOW.out _).mono ?_
            rintro e w6 ⟨rfl, k6⟩
            have HK6 := Lib.hid (HK5.out.trans k6)
            have HS6 := Lib.hid (HSS.out w6 HK6.out)
            clear k6
            go_wp2
            refine hK.out _ _ (HS6.out) ?_
            clear hK K
            try simp only [Act.put, List.getElem_toArray, List.getElem_cons_succ, List.getElem_cons_zero, List.setIfInBounds_toArray, List.set_cons_zero, List.set_cons_succ]
            refine AnyBut.takeS (i := 4) (v := ?v55) rfl (by kernel_rfl) (Nat.le_of_eq (by kernel_rfl)) (by kernel_rfl) (by kernel_rfl) (fun _ _ _ h => h) (HS6.out) (Or.inl ⟨by kernel_rfl, ?hy55⟩) ?r55
            case hy55 =>
              intro w hSw
              try dsimp only at hSw
              go_simp
              first | (obtain ⟨y0, y1⟩ := hSw; go_simp) | skip
              try with_reducible rfl
            try simp only [Act.put, List.getElem_toArray, List.getElem_cons_succ, List.getElem_cons_zero, List.setIfInBounds_toArray, List.set_cons_zero, List.set_cons_succ]
            refine AnyBut.takeS (i := 5) (v := ?v56) rfl (by kernel_rfl) (Nat.le_of_eq (by kernel_rfl)) (by kernel_rfl) (by kernel_rfl) (fun _ _ _ h => h) (HS6.out) (Or.inl ⟨by kernel_rfl, ?hy56⟩) ?r56
            case hy56 =>
              intro w hSw
              try dsimp only at hSw
              go_simp
              first | (obtain ⟨y0, y1⟩ := hSw; go_simp) | skip
              try with_reducible rfl
            try simp only [Act.put, List.getElem_toArray, List.getElem_cons_succ, List.getElem_cons_zero, List.setIfInBounds_toArray, List.set_cons_zero, List.set_cons_succ]
            refine AnyBut.takeS (i := 6) (v := undef) rfl (by kernel_rfl) (Nat.le_of_eq (by kernel_rfl)) (by kernel_rfl) (by kernel_rfl) (fun _ _ _ h => h) (HS6.out) (Or.inr ⟨by kernel_rfl, rfl⟩) ?r57
            try simp only [Act.put, List.getElem_toArray, List.getElem_cons_succ, List.getElem_cons_zero, List.setIfInBounds_toArray, List.set_cons_zero, List.set_cons_succ]
            refine AnyBut.takeS (i := 7) (v := undef) rfl (by kernel_rfl) (Nat.le_of_eq (by kernel_rfl)) (by kernel_rfl) (by kernel_rfl) (fun _ _ _ h => h) (HS6.out) (Or.inr ⟨by kernel_rfl, rfl⟩) ?r58
            try simp only [Act.put, List.getElem_toArray, List.getElem_cons_succ, List.getElem_cons_zero, List.setIfInBounds_toArray, List.set_cons_zero, List.set_cons_succ]
            refine AnyBut.takeS (i := 8) (v := undef) rfl (by kernel_rfl) (Nat.le_of_eq (by kernel_rfl)) (by kernel_rfl) (by kernel_rfl) (fun _ _ _ h => h) (HS6.out) (Or.inr ⟨by kernel_rfl, rfl⟩) ?r59
            try simp only [Act.put, List.getElem_toArray, List.getElem_cons_succ, List.getElem_cons_zero, List.setIfInBounds_toArray, List.set_cons_zero, List.set_cons_succ]
            refine AnyBut.takeS (i := 9) (v := ?v60) rfl (by kernel_rfl) (Nat.le_of_eq (by kernel_rfl)) (by kernel_rfl) (by kernel_rfl) (fun _ _ _ h => h) (HS6.out) (Or.inl ⟨by kernel_rfl, ?hy60⟩) ?r60
            case hy60 =>
              intro w hSw
              try dsimp only at hSw
              go_simp
              first | (obtain ⟨y0, y1⟩ := hSw; go_simp) | skip
              try with_reducible rfl
            try simp only [Act.put, List.getElem_toArray, List.getElem_cons_succ, List.getElem_cons_zero, List.setIfInBounds_toArray, List.set_cons_zero, List.set_cons_succ]
            refine AnyBut.takeS (i := 10) (v := ?v61) rfl (by kernel_rfl) (Nat.le_of_eq (by kernel_rfl)) (by kernel_rfl) (by kernel_rfl) (fun _ _ _ h => h) (HS6.out) (Or.inl ⟨by kernel_rfl, ?hy61⟩) ?r61
            case hy61 =>
              intro w hSw
              try dsimp only at hSw
              go_simp
              first | (obtain ⟨y0, y1⟩ := hSw; go_simp) | skip
              try with_reducible rfl
            try simp only [Act.put, List.getElem_toArray, List.getElem_cons_succ, List.getElem_cons_zero, List.setIfInBounds_toArray, List.set_cons_zero, List.set_cons_succ]
            refine AnyBut.takeS (i := 11) (v := undef) rfl (by kernel_rfl) (Nat.le_of_eq (by kernel_rfl)) (by kernel_rfl) (by kernel_rfl) (fun _ _ _ h => h) (HS6.out) (Or.inr ⟨by kernel_rfl, rfl⟩) ?r62
            try simp only [Act.put, List.getElem_toArray, List.getElem_cons_succ, List.getElem_cons_zero, List.setIfInBounds_toArray, List.set_cons_zero, List.set_cons_succ]
            refine AnyBut.takeS (i := 12) (v := undef) rfl (by kernel_rfl) (Nat.le_of_eq (by kernel_rfl)) (by kernel_rfl) (by kernel_rfl) (fun _ _ _ h => h) (HS6.out) (Or.inr ⟨by kernel_rfl, rfl⟩) ?r63
            try simp only [Act.put, List.getElem_toArray, List.getElem_cons_succ, List.getElem_cons_zero, List.setIfInBounds_toArray, List.set_cons_zero, List.set_cons_succ]
            refine AnyBut.takeS (i := 13) (v := undef) rfl (by kernel_rfl) (Nat.le_of_eq (by kernel_rfl)) (by kernel_rfl) (by kernel_rfl) (fun _ _ _ h => h) (HS6.out) (Or.inr ⟨by kernel_rfl, rfl⟩) ?r64
            try simp only [Act.put, List.getElem_toArray, List.getElem_cons_succ, List.getElem_cons_zero, List.setIfInBounds_toArray, List.set_cons_zero, List.set_cons_succ]
            refine AnyBut.takeS (i := 14) (v := ?v65) rfl (by kernel_rfl) (Nat.le_of_eq (by kernel_rfl)) (by kernel_rfl) (by kernel_rfl) (fun _ _ _ h => h) (HS6.out) (Or.inl ⟨by kernel_rfl, ?hy65⟩) ?r65
            case hy65 =>
              intro w hSw
              try dsimp only at hSw
              go_simp
              first | (obtain ⟨y0, y1⟩ := hSw; go_simp) | skip
              try with_reducible rfl
            try simp only [Act.put, List.getElem_toArray, List.getElem_cons_succ, List.getElem_cons_zero, List.setIfInBounds_toArray, List.set_cons_zero, List.set_cons_succ]
            refine AnyBut.done (by kernel_rfl) ?_
            go_wp2
            go_ret
            exact ⟨by rw [HX.out]; rfl, HK1.out.trans HK6.out⟩
          | true =>
            by_cases hf0 : flags < 0
            · have q2 : decide (flags < 0) = true := decide_eq_true hf0
              have HX : Hid (CK = 3) := Lib.hid (by rw [HC3.out, if_pos (.inr (.inl hf0))])
              clear hf0
              go_upto_region 8 with fail
              have hneq := HNEQ.out
              refine AnyBut.start (S := fun w' => w'.heap[q]? = some (.cells #[.string name, .slice aa al ac, .int .i64 kind, .int .i64 temp, .bool false, .int .i64 start, .int .i64 time, .int .i64 whole, .int .u64 re, .int .u64 im, .int .i64 sc, .int .u64 (ze : Int), .int .i64 po, .slice pa m pc, .int .i64 no, .slice na n nc, .int .i64 flags] 37 (0, 0)) ∧ w'.cell? ⟨q, 16, none⟩ = some (.int .i64 flags)) (k := 15) (by kernel_rfl) ?_
              refine AnyBut.takeS (i := 0) (v := ?v66) rfl (by kernel_rfl) (Nat.le_of_eq (by kernel_rfl)) (by kernel_rfl) (by kernel_rfl) (fun _ _ _ h => h) (HS4.out) (Or.inl ⟨by kernel_rfl, ?hy66⟩) ?r66
              case hy66 =>
                intro w hSw
                try dsimp only at hSw
                refine exec_load_row 37 (.tmp 1) ?_ q ?_ 37 _ (0, 0) _ hSw.1 Try.underlying37 rfl point_info
                · rfl
                · rfl
              try simp only [Act.put, List.getElem_toArray, List.getElem_cons_zero, List.setIfInBounds_toArray, List.set_cons_zero, List.set_cons_succ]
              refine AnyBut.takeS (i := 2) (v := ?v67) rfl (by kernel_rfl) (Nat.le_of_eq (by kernel_rfl)) (by kernel_rfl) (by kernel_rfl) (fun _ _ _ h => h) (HS4.out) (Or.inl ⟨by kernel_rfl, ?hy67⟩) ?r67
              case hy67 =>
                intro w hSw
                try dsimp only at hSw
                refine exec_load_row 37 (.tmp 1) ?_ q ?_ 37 _ (0, 0) _ hSw.1 Try.underlying37 rfl point_info
                · rfl
                · rfl
              try simp only [Act.put, List.getElem_toArray, List.getElem_cons_succ, List.getElem_cons_zero, List.setIfInBounds_toArray, List.set_cons_zero, List.set_cons_succ]
              refine AnyBut.one (i := 1) (by kernel_rfl) rfl (fun K hK => ?_)
              go_simp
              go_wp2_with fail
              refine (HVO.out _).mono ?_
              rintro e w5 ⟨rfl, k5⟩
              have HK5 := Lib.hid (HK4.out.trans k5)
              have HS5 := Lib.hid (HSS.out w5 HK5.out)
              clear k5
              go_wp2
              refine hK.out _ _ (HS5.out) ?_
              clear hK K
              try simp only [Act.put, List.getElem_toArray, List.getElem_cons_succ, List.getElem_cons_zero, List.setIfInBounds_toArray, List.set_cons_zero, List.set_cons_succ]
              refine AnyBut.one (i := 3) (by kernel_rfl) rfl (fun K hK => ?_)
              go_simp
              go_wp2_with fail
              refine (HOW.out _).mono ?_
              rintro e w6 ⟨rfl, k6⟩
              have HK6 := Lib.hid (HK5.out.trans k6)
              have HS6 := Lib.hid (HSS.out w6 HK6.out)
              clear k6
              go_wp2
              refine hK.out _ _ (HS6.out) ?_
              clear hK K
              try simp only [Act.put, List.getElem_toArray, List.getElem_cons_succ, List.getElem_cons_zero, List.setIfInBounds_toArray, List.set_cons_zero, List.set_cons_succ]
              refine AnyBut.takeS (i := 4) (v := ?v68) rfl (by kernel_rfl) (Nat.le_of_eq (by kernel_rfl)) (by kernel_rfl) (by kernel_rfl) (fun _ _ _ h => h) (HS6.out) (Or.inl ⟨by kernel_rfl, ?hy68⟩) ?r68
              case hy68 =>
                intro w hSw
                try dsimp only at hSw
                go_simp
                first | (obtain ⟨y0, y1⟩ := hSw; go_simp) | skip
                try with_reducible rfl
              try simp only [Act.put, List.getElem_toArray, List.getElem_cons_succ, List.getElem_cons_zero, List.setIfInBounds_toArray, List.set_cons_zero, List.set_cons_succ]
              refine AnyBut.takeS (i := 5) (v := ?v69) rfl (by kernel_rfl) (Nat.le_of_eq (by kernel_rfl)) (by kernel_rfl) (by kernel_rfl) (fun _ _ _ h => h) (HS6.out) (Or.inl ⟨by kernel_rfl, ?hy69⟩) ?r69
              case hy69 =>
                intro w hSw
                try dsimp only at hSw
                go_simp
                first | (obtain ⟨y0, y1⟩ := hSw; go_simp) | skip
                try with_reducible rfl
              try simp only [Act.put, List.getElem_toArray, List.getElem_cons_succ, List.getElem_cons_zero, List.setIfInBounds_toArray, List.set_cons_zero, List.set_cons_succ]
              refine AnyBut.takeS (i := 6) (v := ?v70) rfl (by kernel_rfl) (Nat.le_of_eq (by kernel_rfl)) (by kernel_rfl) (by kernel_rfl) (fun _ _ _ h => h) (HS6.out) (Or.inl ⟨by kernel_rfl, ?hy70⟩) ?r70
              case hy70 =>
                intro w hSw
                try dsimp only at hSw
                go_simp
                first | (obtain ⟨y0, y1⟩ := hSw; go_simp) | skip
                try with_reducible rfl
              try simp only [Act.put, List.getElem_toArray, List.getElem_cons_succ, List.getElem_cons_zero, List.setIfInBounds_toArray, List.set_cons_zero, List.set_cons_succ]
              refine AnyBut.takeS (i := 7) (v := ?v71) rfl (by kernel_rfl) (Nat.le_of_eq (by kernel_rfl)) (by kernel_rfl) (by kernel_rfl) (fun _ _ _ h => h) (HS6.out) (Or.inl ⟨by kernel_rfl, ?hy71⟩) ?r71
              case hy71 =>
                intro w hSw
                try dsimp only at hSw
                go_simp
                first | (obtain ⟨y0, y1⟩ := hSw; go_simp) | skip
                try with_reducible rfl
              try simp only [Act.put, List.getElem_toArray, List.getElem_cons_succ, List.getElem_cons_zero, List.setIfInBounds_toArray, List.set_cons_zero, List.set_cons_succ]
              refine AnyBut.takeS (i := 8) (v := ?v72) rfl (by kernel_rfl) (Nat.le_of_eq (by kernel_rfl)) (by kernel_rfl) (by kernel_rfl) (fun _ _ _ h => h) (HS6.out) (Or.inl ⟨by kernel_rfl, ?hy72⟩) ?r72
              case hy72 =>
                intro w hSw
                try dsimp only at hSw
                go_simp
                first | (obtain ⟨y0, y1⟩ := hSw; go_simp) | skip
                try with_reducible rfl
              try simp only [Act.put, List.getElem_toArray, List.getElem_cons_succ, List.getElem_cons_zero, List.setIfInBounds_toArray, List.set_cons_zero, List.set_cons_succ]
              refine AnyBut.takeS (i := 9) (v := ?v73) rfl (by kernel_rfl) (Nat.le_of_eq (by kernel_rfl)) (by kernel_rfl) (by kernel_rfl) (fun _ _ _ h => h) (HS6.out) (Or.inl ⟨by kernel_rfl, ?hy73⟩) ?r73
              case hy73 =>
                intro w hSw
                try dsimp only at hSw
                go_simp
                first | (obtain ⟨y0, y1⟩ := hSw; go_simp) | skip
                try with_reducible rfl
              try simp only [Act.put, List.getElem_toArray, List.getElem_cons_succ, List.getElem_cons_zero, List.setIfInBounds_toArray, List.set_cons_zero, List.set_cons_succ]
              refine AnyBut.takeS (i := 10) (v := ?v74) rfl (by kernel_rfl) (Nat.le_of_eq (by kernel_rfl)) (by kernel_rfl) (by kernel_rfl) (fun _ _ _ h => h) (HS6.out) (Or.inl ⟨by kernel_rfl, ?hy74⟩) ?r74
              case hy74 =>
                intro w hSw
                try dsimp only at hSw
                go_simp
                first | (obtain ⟨y0, y1⟩ := hSw; go_simp) | skip
                try with_reducible rfl
              try simp only [Act.put, List.getElem_toArray, List.getElem_cons_succ, List.getElem_cons_zero, List.setIfInBounds_toArray, List.set_cons_zero, List.set_cons_succ]
              refine AnyBut.takeS (i := 11) (v := undef) rfl (by kernel_rfl) (Nat.le_of_eq (by kernel_rfl)) (by kernel_rfl) (by kernel_rfl) (fun _ _ _ h => h) (HS6.out) (Or.inr ⟨by kernel_rfl, rfl⟩) ?r75
              try simp only [Act.put, List.getElem_toArray, List.getElem_cons_succ, List.getElem_cons_zero, List.setIfInBounds_toArray, List.set_cons_zero, List.set_cons_succ]
              refine AnyBut.takeS (i := 12) (v := undef) rfl (by kernel_rfl) (Nat.le_of_eq (by kernel_rfl)) (by kernel_rfl) (by kernel_rfl) (fun _ _ _ h => h) (HS6.out) (Or.inr ⟨by kernel_rfl, rfl⟩) ?r76
              try simp only [Act.put, List.getElem_toArray, List.getElem_cons_succ, List.getElem_cons_zero, List.setIfInBounds_toArray, List.set_cons_zero, List.set_cons_succ]
              refine AnyBut.takeS (i := 13) (v := undef) rfl (by kernel_rfl) (Nat.le_of_eq (by kernel_rfl)) (by kernel_rfl) (by kernel_rfl) (fun _ _ _ h => h) (HS6.out) (Or.inr ⟨by kernel_rfl, rfl⟩) ?r77
              try simp only [Act.put, List.getElem_toArray, List.getElem_cons_succ, List.getElem_cons_zero, List.setIfInBounds_toArray, List.set_cons_zero, List.set_cons_succ]
              refine AnyBut.takeS (i := 14) (v := ?v78) rfl (by kernel_rfl) (Nat.le_of_eq (by kernel_rfl)) (by kernel_rfl) (by kernel_rfl) (fun _ _ _ h => h) (HS6.out) (Or.inl ⟨by kernel_rfl, ?hy78⟩) ?r78
              case hy78 =>
                intro w hSw
                try dsimp only at hSw
                go_simp
                first | (obtain ⟨y0, y1⟩ := hSw; go_simp) | skip
                try with_reducible rfl
              try simp only [Act.put, List.getElem_toArray, List.getElem_cons_succ, List.getElem_cons_zero, List.setIfInBounds_toArray, List.set_cons_zero, List.set_cons_succ]
              refine AnyBut.done (by kernel_rfl) ?_
              go_wp2
              go_ret
              exact ⟨by rw [HX.out]; rfl, HK1.out.trans HK6.out⟩
            have q2 : decide (flags < 0) = false := decide_eq_false hf0
            by_cases hf1 : 31 < flags
            · have q3 : decide (31 < flags) = true := decide_eq_true hf1
              have HX : Hid (CK = 3) := Lib.hid (by rw [HC3.out, if_pos (.inr (.inr hf1))])
              clear hf0 hf1
              go_upto_region 8 with fail
              have hneq := HNEQ.out
              refine AnyBut.start (S := fun w' => w'.heap[q]? = some (.cells #[.string name, .slice aa al ac, .int .i64 kind, .int .i64 temp, .bool false, .int .i64 start, .int .i64 time, .int .i64 whole, .int .u64 re, .int .u64 im, .int .i64 sc, .int .u64 (ze : Int), .int .i64 po, .slice pa m pc, .int .i64 no, .slice na n nc, .int .i64 flags] 37 (0, 0)) ∧ w'.cell? ⟨q, 16, none⟩ = some (.int .i64 flags)) (k := 15) (by kernel_rfl) ?_
              refine AnyBut.takeS (i := 0) (v := ?v79) rfl (by kernel_rfl) (Nat.le_of_eq (by kernel_rfl)) (by kernel_rfl) (by kernel_rfl) (fun _ _ _ h => h) (HS4.out) (Or.inl ⟨by kernel_rfl, ?hy79⟩) ?r79
              case hy79 =>
                intro w hSw
                try dsimp only at hSw
                refine exec_load_row 37 (.tmp 1) ?_ q ?_ 37 _ (0, 0) _ hSw.1 Try.underlying37 rfl point_info
                · rfl
                · rfl
              try simp only [Act.put, List.getElem_toArray, List.getElem_cons_zero, List.setIfInBounds_toArray, List.set_cons_zero, List.set_cons_succ]
              refine AnyBut.takeS (i := 2) (v := ?v80) rfl (by kernel_rfl) (Nat.le_of_eq (by kernel_rfl)) (by kernel_rfl) (by kernel_rfl) (fun _ _ _ h => h) (HS4.out) (Or.inl ⟨by kernel_rfl, ?hy80⟩) ?r80
              case hy80 =>
                intro w hSw
                try dsimp only at hSw
                refine exec_load_row 37 (.tmp 1) ?_ q ?_ 37 _ (0, 0) _ hSw.1 Try.underlying37 rfl point_info
                · rfl
                · rfl
              try simp only [Act.put, List.getElem_toArray, List.getElem_cons_succ, List.getElem_cons_zero, List.setIfInBounds_toArray, List.set_cons_zero, List.set_cons_succ]
              refine AnyBut.one (i := 1) (by kernel_rfl) rfl (fun K hK => ?_)
              go_simp
              go_wp2_with fail
              refine (HVO.out _).mono ?_
              rintro e w5 ⟨rfl, k5⟩
              have HK5 := Lib.hid (HK4.out.trans k5)
              have HS5 := Lib.hid (HSS.out w5 HK5.out)
              clear k5
              go_wp2
              refine hK.out _ _ (HS5.out) ?_
              clear hK K
              try simp only [Act.put, List.getElem_toArray, List.getElem_cons_succ, List.getElem_cons_zero, List.setIfInBounds_toArray, List.set_cons_zero, List.set_cons_succ]
              refine AnyBut.one (i := 3) (by kernel_rfl) rfl (fun K hK => ?_)
              go_simp
              go_wp2_with fail
              refine (HOW.out _).mono ?_
              rintro e w6 ⟨rfl, k6⟩
              have HK6 := Lib.hid (HK5.out.trans k6)
              have HS6 := Lib.hid (HSS.out w6 HK6.out)
              clear k6
              go_wp2
              refine hK.out _ _ (HS6.out) ?_
              clear hK K
              try simp only [Act.put, List.getElem_toArray, List.getElem_cons_succ, List.getElem_cons_zero, List.setIfInBounds_toArray, List.set_cons_zero, List.set_cons_succ]
              refine AnyBut.takeS (i := 4) (v := ?v81) rfl (by kernel_rfl) (Nat.le_of_eq (by kernel_rfl)) (by kernel_rfl) (by kernel_rfl) (fun _ _ _ h => h) (HS6.out) (Or.inl ⟨by kernel_rfl, ?hy81⟩) ?r81
              case hy81 =>
                intro w hSw
                try dsimp only at hSw
                go_simp
                first | (obtain ⟨y0, y1⟩ := hSw; go_simp) | skip
                try with_reducible rfl
              try simp only [Act.put, List.getElem_toArray, List.getElem_cons_succ, List.getElem_cons_zero, List.setIfInBounds_toArray, List.set_cons_zero, List.set_cons_succ]
              refine AnyBut.takeS (i := 5) (v := ?v82) rfl (by kernel_rfl) (Nat.le_of_eq (by kernel_rfl)) (by kernel_rfl) (by kernel_rfl) (fun _ _ _ h => h) (HS6.out) (Or.inl ⟨by kernel_rfl, ?hy82⟩) ?r82
              case hy82 =>
                intro w hSw
                try dsimp only at hSw
                go_simp
                first | (obtain ⟨y0, y1⟩ := hSw; go_simp) | skip
                try with_reducible rfl
              try simp only [Act.put, List.getElem_toArray, List.getElem_cons_succ, List.getElem_cons_zero, List.setIfInBounds_toArray, List.set_cons_zero, List.set_cons_succ]
              refine AnyBut.takeS (i := 6) (v := ?v83) rfl (by kernel_rfl) (Nat.le_of_eq (by kernel_rfl)) (by kernel_rfl) (by kernel_rfl) (fun _ _ _ h => h) (HS6.out) (Or.inl ⟨by kernel_rfl, ?hy83⟩) ?r83
              case hy83 =>
                intro w hSw
                try dsimp only at hSw
                go_simp
                first | (obtain ⟨y0, y1⟩ := hSw; go_simp) | skip
                try with_reducible rfl
              try simp only [Act.put, List.getElem_toArray, List.getElem_cons_succ, List.getElem_cons_zero, List.setIfInBounds_toArray, List.set_cons_zero, List.set_cons_succ]
              refine AnyBut.takeS (i := 7) (v := ?v84) rfl (by kernel_rfl) (Nat.le_of_eq (by kernel_rfl)) (by kernel_rfl) (by kernel_rfl) (fun _ _ _ h => h) (HS6.out) (Or.inl ⟨by kernel_rfl, ?hy84⟩) ?r84
              case hy84 =>
                intro w hSw
                try dsimp only at hSw
                go_simp
                first | (obtain ⟨y0, y1⟩ := hSw; go_simp) | skip
                try with_reducible rfl
              try simp only [Act.put, List.getElem_toArray, List.getElem_cons_succ, List.getElem_cons_zero, List.setIfInBounds_toArray, List.set_cons_zero, List.set_cons_succ]
              refine AnyBut.takeS (i := 8) (v := ?v85) rfl (by kernel_rfl) (Nat.le_of_eq (by kernel_rfl)) (by kernel_rfl) (by kernel_rfl) (fun _ _ _ h => h) (HS6.out) (Or.inl ⟨by kernel_rfl, ?hy85⟩) ?r85
              case hy85 =>
                intro w hSw
                try dsimp only at hSw
                go_simp
                first | (obtain ⟨y0, y1⟩ := hSw; go_simp) | skip
                try with_reducible rfl
              try simp only [Act.put, List.getElem_toArray, List.getElem_cons_succ, List.getElem_cons_zero, List.setIfInBounds_toArray, List.set_cons_zero, List.set_cons_succ]
              refine AnyBut.takeS (i := 9) (v := ?v86) rfl (by kernel_rfl) (Nat.le_of_eq (by kernel_rfl)) (by kernel_rfl) (by kernel_rfl) (fun _ _ _ h => h) (HS6.out) (Or.inl ⟨by kernel_rfl, ?hy86⟩) ?r86
              case hy86 =>
                intro w hSw
                try dsimp only at hSw
                go_simp
                first | (obtain ⟨y0, y1⟩ := hSw; go_simp) | skip
                try with_reducible rfl
              try simp only [Act.put, List.getElem_toArray, List.getElem_cons_succ, List.getElem_cons_zero, List.setIfInBounds_toArray, List.set_cons_zero, List.set_cons_succ]
              refine AnyBut.takeS (i := 10) (v := ?v87) rfl (by kernel_rfl) (Nat.le_of_eq (by kernel_rfl)) (by kernel_rfl) (by kernel_rfl) (fun _ _ _ h => h) (HS6.out) (Or.inl ⟨by kernel_rfl, ?hy87⟩) ?r87
              case hy87 =>
                intro w hSw
                try dsimp only at hSw
                go_simp
                first | (obtain ⟨y0, y1⟩ := hSw; go_simp) | skip
                try with_reducible rfl
              try simp only [Act.put, List.getElem_toArray, List.getElem_cons_succ, List.getElem_cons_zero, List.setIfInBounds_toArray, List.set_cons_zero, List.set_cons_succ]
              refine AnyBut.takeS (i := 11) (v := ?v88) rfl (by kernel_rfl) (Nat.le_of_eq (by kernel_rfl)) (by kernel_rfl) (by kernel_rfl) (fun _ _ _ h => h) (HS6.out) (Or.inl ⟨by kernel_rfl, ?hy88⟩) ?r88
              case hy88 =>
                intro w hSw
                try dsimp only at hSw
                go_simp
                first | (obtain ⟨y0, y1⟩ := hSw; go_simp) | skip
                try with_reducible rfl
              try simp only [Act.put, List.getElem_toArray, List.getElem_cons_succ, List.getElem_cons_zero, List.setIfInBounds_toArray, List.set_cons_zero, List.set_cons_succ]
              refine AnyBut.takeS (i := 12) (v := ?v89) rfl (by kernel_rfl) (Nat.le_of_eq (by kernel_rfl)) (by kernel_rfl) (by kernel_rfl) (fun _ _ _ h => h) (HS6.out) (Or.inl ⟨by kernel_rfl, ?hy89⟩) ?r89
              case hy89 =>
                intro w hSw
                try dsimp only at hSw
                go_simp
                first | (obtain ⟨y0, y1⟩ := hSw; go_simp) | skip
                try with_reducible rfl
              try simp only [Act.put, List.getElem_toArray, List.getElem_cons_succ, List.getElem_cons_zero, List.setIfInBounds_toArray, List.set_cons_zero, List.set_cons_succ]
              refine AnyBut.takeS (i := 13) (v := ?v90) rfl (by kernel_rfl) (Nat.le_of_eq (by kernel_rfl)) (by kernel_rfl) (by kernel_rfl) (fun _ _ _ h => h) (HS6.out) (Or.inl ⟨by kernel_rfl, ?hy90⟩) ?r90
              case hy90 =>
                intro w hSw
                try dsimp only at hSw
                go_simp
                first | (obtain ⟨y0, y1⟩ := hSw; go_simp) | skip
                try with_reducible rfl
              try simp only [Act.put, List.getElem_toArray, List.getElem_cons_succ, List.getElem_cons_zero, List.setIfInBounds_toArray, List.set_cons_zero, List.set_cons_succ]
              refine AnyBut.takeS (i := 14) (v := ?v91) rfl (by kernel_rfl) (Nat.le_of_eq (by kernel_rfl)) (by kernel_rfl) (by kernel_rfl) (fun _ _ _ h => h) (HS6.out) (Or.inl ⟨by kernel_rfl, ?hy91⟩) ?r91
              case hy91 =>
                intro w hSw
                try dsimp only at hSw
                go_simp
                first | (obtain ⟨y0, y1⟩ := hSw; go_simp) | skip
                try with_reducible rfl
              try simp only [Act.put, List.getElem_toArray, List.getElem_cons_succ, List.getElem_cons_zero, List.setIfInBounds_toArray, List.set_cons_zero, List.set_cons_succ]
              refine AnyBut.done (by kernel_rfl) ?_
              go_wp2
              go_ret
              exact ⟨by rw [HX.out]; rfl, HK1.out.trans HK6.out⟩
            have q3 : decide (31 < flags) = false := decide_eq_false hf1
            have HC4 := Lib.hid (HC3.out.trans (if_neg (fun x => x.elim (fun h => by cases h) (fun x => x.elim hf0 hf1))))
            clear hf0 hf1
            go_upto_region 8 with fail
            have hneq := HNEQ.out
            refine AnyBut.start (S := fun w' => w'.heap[q]? = some (.cells #[.string name, .slice aa al ac, .int .i64 kind, .int .i64 temp, .bool false, .int .i64 start, .int .i64 time, .int .i64 whole, .int .u64 re, .int .u64 im, .int .i64 sc, .int .u64 (ze : Int), .int .i64 po, .slice pa m pc, .int .i64 no, .slice na n nc, .int .i64 flags] 37 (0, 0)) ∧ w'.cell? ⟨q, 16, none⟩ = some (.int .i64 flags)) (k := 15) (by kernel_rfl) ?_
            refine AnyBut.takeS (i := 0) (v := ?v92) rfl (by kernel_rfl) (Nat.le_of_eq (by kernel_rfl)) (by kernel_rfl) (by kernel_rfl) (fun _ _ _ h => h) (HS4.out) (Or.inl ⟨by kernel_rfl, ?hy92⟩) ?r92
            case hy92 =>
              intro w hSw
              try dsimp only at hSw
              refine exec_load_row 37 (.tmp 1) ?_ q ?_ 37 _ (0, 0) _ hSw.1 Try.underlying37 rfl point_info
              · rfl
              · rfl
            try simp only [Act.put, List.getElem_toArray, List.getElem_cons_zero, List.setIfInBounds_toArray, List.set_cons_zero, List.set_cons_succ]
            refine AnyBut.takeS (i := 2) (v := ?v93) rfl (by kernel_rfl) (Nat.le_of_eq (by kernel_rfl)) (by kernel_rfl) (by kernel_rfl) (fun _ _ _ h => h) (HS4.out) (Or.inl ⟨by kernel_rfl, ?hy93⟩) ?r93
            case hy93 =>
              intro w hSw
              try dsimp only at hSw
              refine exec_load_row 37 (.tmp 1) ?_ q ?_ 37 _ (0, 0) _ hSw.1 Try.underlying37 rfl point_info
              · rfl
              · rfl
            try simp only [Act.put, List.getElem_toArray, List.getElem_cons_succ, List.getElem_cons_zero, List.setIfInBounds_toArray, List.set_cons_zero, List.set_cons_succ]
            refine AnyBut.one (i := 1) (by kernel_rfl) rfl (fun K hK => ?_)
            go_simp
            go_wp2_with fail
            refine (HVO.out _).mono ?_
            rintro e w5 ⟨rfl, k5⟩
            have HK5 := Lib.hid (HK4.out.trans k5)
            have HS5 := Lib.hid (HSS.out w5 HK5.out)
            clear k5
            go_wp2
            refine hK.out _ _ (HS5.out) ?_
            clear hK K
            try simp only [Act.put, List.getElem_toArray, List.getElem_cons_succ, List.getElem_cons_zero, List.setIfInBounds_toArray, List.set_cons_zero, List.set_cons_succ]
            refine AnyBut.one (i := 3) (by kernel_rfl) rfl (fun K hK => ?_)
            go_simp
            go_wp2_with fail
            refine (HOW.out _).mono ?_
            rintro e w6 ⟨rfl, k6⟩
            have HK6 := Lib.hid (HK5.out.trans k6)
            have HS6 := Lib.hid (HSS.out w6 HK6.out)
            clear k6
            go_wp2
            refine hK.out _ _ (HS6.out) ?_
            clear hK K
            try simp only [Act.put, List.getElem_toArray, List.getElem_cons_succ, List.getElem_cons_zero, List.setIfInBounds_toArray, List.set_cons_zero, List.set_cons_succ]
            refine AnyBut.takeS (i := 4) (v := ?v94) rfl (by kernel_rfl) (Nat.le_of_eq (by kernel_rfl)) (by kernel_rfl) (by kernel_rfl) (fun _ _ _ h => h) (HS6.out) (Or.inl ⟨by kernel_rfl, ?hy94⟩) ?r94
            case hy94 =>
              intro w hSw
              try dsimp only at hSw
              go_simp
              first | (obtain ⟨y0, y1⟩ := hSw; go_simp) | skip
              try with_reducible rfl
            try simp only [Act.put, List.getElem_toArray, List.getElem_cons_succ, List.getElem_cons_zero, List.setIfInBounds_toArray, List.set_cons_zero, List.set_cons_succ]
            refine AnyBut.takeS (i := 5) (v := ?v95) rfl (by kernel_rfl) (Nat.le_of_eq (by kernel_rfl)) (by kernel_rfl) (by kernel_rfl) (fun _ _ _ h => h) (HS6.out) (Or.inl ⟨by kernel_rfl, ?hy95⟩) ?r95
            case hy95 =>
              intro w hSw
              try dsimp only at hSw
              go_simp
              first | (obtain ⟨y0, y1⟩ := hSw; go_simp) | skip
              try with_reducible rfl
            try simp only [Act.put, List.getElem_toArray, List.getElem_cons_succ, List.getElem_cons_zero, List.setIfInBounds_toArray, List.set_cons_zero, List.set_cons_succ]
            refine AnyBut.takeS (i := 6) (v := ?v96) rfl (by kernel_rfl) (Nat.le_of_eq (by kernel_rfl)) (by kernel_rfl) (by kernel_rfl) (fun _ _ _ h => h) (HS6.out) (Or.inl ⟨by kernel_rfl, ?hy96⟩) ?r96
            case hy96 =>
              intro w hSw
              try dsimp only at hSw
              go_simp
              first | (obtain ⟨y0, y1⟩ := hSw; go_simp) | skip
              try with_reducible rfl
            try simp only [Act.put, List.getElem_toArray, List.getElem_cons_succ, List.getElem_cons_zero, List.setIfInBounds_toArray, List.set_cons_zero, List.set_cons_succ]
            refine AnyBut.takeS (i := 7) (v := ?v97) rfl (by kernel_rfl) (Nat.le_of_eq (by kernel_rfl)) (by kernel_rfl) (by kernel_rfl) (fun _ _ _ h => h) (HS6.out) (Or.inl ⟨by kernel_rfl, ?hy97⟩) ?r97
            case hy97 =>
              intro w hSw
              try dsimp only at hSw
              go_simp
              first | (obtain ⟨y0, y1⟩ := hSw; go_simp) | skip
              try with_reducible rfl
            try simp only [Act.put, List.getElem_toArray, List.getElem_cons_succ, List.getElem_cons_zero, List.setIfInBounds_toArray, List.set_cons_zero, List.set_cons_succ]
            refine AnyBut.takeS (i := 8) (v := ?v98) rfl (by kernel_rfl) (Nat.le_of_eq (by kernel_rfl)) (by kernel_rfl) (by kernel_rfl) (fun _ _ _ h => h) (HS6.out) (Or.inl ⟨by kernel_rfl, ?hy98⟩) ?r98
            case hy98 =>
              intro w hSw
              try dsimp only at hSw
              go_simp
              first | (obtain ⟨y0, y1⟩ := hSw; go_simp) | skip
              try with_reducible rfl
            try simp only [Act.put, List.getElem_toArray, List.getElem_cons_succ, List.getElem_cons_zero, List.setIfInBounds_toArray, List.set_cons_zero, List.set_cons_succ]
            refine AnyBut.takeS (i := 9) (v := ?v99) rfl (by kernel_rfl) (Nat.le_of_eq (by kernel_rfl)) (by kernel_rfl) (by kernel_rfl) (fun _ _ _ h => h) (HS6.out) (Or.inl ⟨by kernel_rfl, ?hy99⟩) ?r99
            case hy99 =>
              intro w hSw
              try dsimp only at hSw
              go_simp
              first | (obtain ⟨y0, y1⟩ := hSw; go_simp) | skip
              try with_reducible rfl
            try simp only [Act.put, List.getElem_toArray, List.getElem_cons_succ, List.getElem_cons_zero, List.setIfInBounds_toArray, List.set_cons_zero, List.set_cons_succ]
            refine AnyBut.takeS (i := 10) (v := ?v100) rfl (by kernel_rfl) (Nat.le_of_eq (by kernel_rfl)) (by kernel_rfl) (by kernel_rfl) (fun _ _ _ h => h) (HS6.out) (Or.inl ⟨by kernel_rfl, ?hy100⟩) ?r100
            case hy100 =>
              intro w hSw
              try dsimp only at hSw
              go_simp
              first | (obtain ⟨y0, y1⟩ := hSw; go_simp) | skip
              try with_reducible rfl
            try simp only [Act.put, List.getElem_toArray, List.getElem_cons_succ, List.getElem_cons_zero, List.setIfInBounds_toArray, List.set_cons_zero, List.set_cons_succ]
            refine AnyBut.takeS (i := 11) (v := ?v101) rfl (by kernel_rfl) (Nat.le_of_eq (by kernel_rfl)) (by kernel_rfl) (by kernel_rfl) (fun _ _ _ h => h) (HS6.out) (Or.inl ⟨by kernel_rfl, ?hy101⟩) ?r101
            case hy101 =>
              intro w hSw
              try dsimp only at hSw
              go_simp
              first | (obtain ⟨y0, y1⟩ := hSw; go_simp) | skip
              try with_reducible rfl
            try simp only [Act.put, List.getElem_toArray, List.getElem_cons_succ, List.getElem_cons_zero, List.setIfInBounds_toArray, List.set_cons_zero, List.set_cons_succ]
            refine AnyBut.takeS (i := 12) (v := ?v102) rfl (by kernel_rfl) (Nat.le_of_eq (by kernel_rfl)) (by kernel_rfl) (by kernel_rfl) (fun _ _ _ h => h) (HS6.out) (Or.inl ⟨by kernel_rfl, ?hy102⟩) ?r102
            case hy102 =>
              intro w hSw
              try dsimp only at hSw
              go_simp
              first | (obtain ⟨y0, y1⟩ := hSw; go_simp) | skip
              try with_reducible rfl
            try simp only [Act.put, List.getElem_toArray, List.getElem_cons_succ, List.getElem_cons_zero, List.setIfInBounds_toArray, List.set_cons_zero, List.set_cons_succ]
            refine AnyBut.takeS (i := 13) (v := ?v103) rfl (by kernel_rfl) (Nat.le_of_eq (by kernel_rfl)) (by kernel_rfl) (by kernel_rfl) (fun _ _ _ h => h) (HS6.out) (Or.inl ⟨by kernel_rfl, ?hy103⟩) ?r103
            case hy103 =>
              intro w hSw
              try dsimp only at hSw
              go_simp
              first | (obtain ⟨y0, y1⟩ := hSw; go_simp) | skip
              try with_reducible rfl
            try simp only [Act.put, List.getElem_toArray, List.getElem_cons_succ, List.getElem_cons_zero, List.setIfInBounds_toArray, List.set_cons_zero, List.set_cons_succ]
            refine AnyBut.takeS (i := 14) (v := ?v104) rfl (by kernel_rfl) (Nat.le_of_eq (by kernel_rfl)) (by kernel_rfl) (by kernel_rfl) (fun _ _ _ h => h) (HS6.out) (Or.inl ⟨by kernel_rfl, ?hy104⟩) ?r104
            case hy104 =>
              intro w hSw
              try dsimp only at hSw
              go_simp
              first | (obtain ⟨y0, y1⟩ := hSw; go_simp) | skip
              try with_reducible rfl
            try simp only [Act.put, List.getElem_toArray, List.getElem_cons_succ, List.getElem_cons_zero, List.setIfInBounds_toArray, List.set_cons_zero, List.set_cons_succ]
            refine AnyBut.done (by kernel_rfl) ?_
            obtain ⟨_, _, _, _, c4, _, _, _, _, _, c10, c11, c12, c13, c14, c15, _⟩ := HPS.out w6 (HK6.out)
            go_wp2_with fail
            refine (HHC.out w6 (HK1.out.trans HK6.out)).mono ?_
            rintro e w7 ⟨rfl, k7⟩
            have HK7 := Lib.hid (HK6.out.trans k7)
            clear k7
            go_wp2
            go_ret
            exact ⟨by rw [HC4.out]; rfl, HK1.out.trans HK7.out⟩
  · have q1 : ((E : Int) != 0) = true := bneT (by omega)
    have q1' : (E != 0) = true := by simp [hE]
    have HX : Hid (CK = E) := Lib.hid (by rw [HCK.out, if_pos hE])
    clear hE
    go_wp2
    go_ret
    exact ⟨by rw [HX.out]; rfl, HK1.out.trans HK2.out⟩
end Go.Proofs.Ytiiibhdohlpodaa
namespace Go.Proofs.Ytiiibhdohlpodaa
open Go.RowKit
attribute [local go_sem ↓] Go.wp_at_zero Go.wp_at_succ
end Go.Proofs.Ytiiibhdohlpodaa
namespace Go.Proofs.Ytiiibhdohlpodaa
open Go.RowKit
attribute [local go_sem ↓] Go.wp_at_zero Go.wp_at_succ
theorem ptAll (na : ByteArray) (aa pa nb : Option Addr) (al ac pl pc nl nc : Nat) (k te st en z : Int) (mo : Bool) (re im sc ze po no fl : Int) : (#[Value.string na, .slice aa al ac, .int .i64 k, .int .i64 te, .bool mo, .int .i64 st, .int .i64 en, .int .i64 z, .int .u64 re, .int .u64 im, .int .i64 sc, .int .u64 ze, .int .i64 po, .slice pa pl pc, .int .i64 no, .slice nb nl nc, .int .i64 fl] : Array Value).all (·.oneCell') = true := by simp [Value.oneCell']
section
variable {W w wr w' : World} {p q : Nat} {cs zs : Array Value} {l rest rest' : List Int}
theorem setRow_keptW (w : World) (g : Nat) (cs : Array Value) : Kept (fun k => k = g) w (w.setRow g cs) :=
  ⟨rfl, rfl, rfl, by simp [World.setRow], fun k _ hn => by rw [setRow_other _ _ _ _ (by exact fun e => hn e)]⟩
end
end Go.Proofs.Ytiiibhdohlpodaa
namespace Go.Proofs.Ytiiibhdohlpodaa
open Go.RowKit
attribute [local go_sem ↓] Go.wp_at_zero Go.wp_at_succ
/-- Is a point light? -/
def lightP (x : Pnt) : Bool := decide (x.name.size ≤ 100) && (lightL x.L && decide (x.h.pl.length ≤ 300 ∧ x.h.nl.length ≤ 300))
theorem lightP_of {x : Pnt} (h : lightP x = true) : x.light := by
  unfold lightP at h
  simp only [Bool.and_eq_true, decide_eq_true_eq] at h
  obtain ⟨h1, h2, h3, h4⟩ := h
  have h5 := lightL_true h2
  exact ⟨by omega, h5.1, h5.2.mono (by omega), by omega, by omega⟩
set_option maxRecDepth 100000 in
set_option maxHeartbeats 4000000 in
theorem refLight12_any (x : Pnt) (aa pa na : Option Addr) (ac pc nc : Nat) (w : World) (ha : PntAt w x aa ac (.slice pa x.h.pl.length pc) (.slice na x.h.nl.length nc)) (hL : x.L.length ≤ 9223372036854775807) :
    Calls Try.prog 20 #[pntV x (.slice aa x.L.length ac) (.slice pa x.h.pl.length pc) (.slice na x.h.nl.length nc)] w fun e w' => e = .returned (.bool (lightP x)) ∧ Kept (fun _ => False) w w' := by
  have HLL := Lib.hid (fun w' (k : Kept (fun _ => False) w w') => refLight11_any aa ac x.L w' (ha.ps.kept k) hL)
  have HHL := Lib.hid (fun w' (k : Kept (fun _ => False) w w') => refLight_any x.h (.slice pa x.h.pl.length pc) (.slice na x.h.nl.length nc) w' (ha.hist.on k))
  unfold lightP
  unfold pntV pntC
  unfold histV at HHL
  obtain ⟨name, L, kind, temp, mono, start, time, whole, re, im, ⟨sc, ze, po, pl, no, nl⟩, flags⟩ := x
  dsimp only at HLL HHL ⊢
  obtain ⟨BL, hBL⟩ : ∃ b, b = lightL L := ⟨_, rfl⟩
  obtain ⟨BH, hBH⟩ : ∃ b : Bool, b = decide (pl.length ≤ 300 ∧ nl.length ≤ 300) := ⟨_, rfl⟩
  rw [← hBL] at HLL ⊢
  rw [← hBH] at HHL ⊢
  obtain ⟨al, hal⟩ : ∃ m, m = L.length := ⟨_, rfl⟩
  obtain ⟨m, hm⟩ : ∃ m, m = pl.length := ⟨_, rfl⟩
  obtain ⟨n, hn⟩ : ∃ n, n = nl.length := ⟨_, rfl⟩
  rw [← hal] at HLL
  rw [← hm, ← hn] at HHL
  rw [← hm, ← hn, ← hal]
  obtain ⟨w1, hw1⟩ : ∃ w1, w1 = w.alloc (.cells #[.string name, .slice aa al ac, .int .i64 kind, .int .i64 temp, .bool mono, .int .i64 start, .int .i64 time, .int .i64 whole, .int .u64 re, .int .u64 im, .int .i64 sc, .int .u64 (ze : Int), .int .i64 po, .slice pa m pc, .int .i64 no, .slice na n nc, .int .i64 flags] 37) := ⟨_, rfl⟩
  have HK1 : Hid (Kept (fun _ => False) w w1) := Lib.hid (by rw [hw1]; exact (Kept.refl _ _).alloc _)
  obtain ⟨q, hq⟩ : ∃ q, q = w.heap.size := ⟨_, rfl⟩
  have hb : w1.heap[q]? = some (.cells #[.string name, .slice aa al ac, .int .i64 kind, .int .i64 temp, .bool mono, .int .i64 start, .int .i64 time, .int .i64 whole, .int .u64 re, .int .u64 im, .int .i64 sc, .int .u64 (ze : Int), .int .i64 po, .slice pa m pc, .int .i64 no, .slice na n nc, .int .i64 flags] 37 (0, 0)) := by rw [hw1, hq]; exact heap_alloc_new w _
  have HW1 := Lib.hid (And.intro hw1 hq)
  have HB := Lib.hid hb
  clear hBL hBH hal hm hn hw1 hq ha hL hb
  by_cases hz : name.size ≤ 100
  · have q1 : decide (name.size ≤ 100) = true := decide_eq_true hz
    have q1' : (name.size : Int) ≤ 100 := by omega
    rw [q1]
    clear hz
    go_enter Try.func20, Try.ntmps20
    go_wp2_with fail
    rw [← HW1.out.1, ← HW1.out.2]
    refine (HLL.out w1 HK1.out).mono ?_
    rintro e w2 ⟨rfl, rfl⟩
    cases BL with
    | false =>
      go_wp2
      go_ret
      exact ⟨rfl, HK1.out⟩
    | true =>
      have c10 := cell_rowZ 10 _ HB.out rfl
      have c11 := cell_rowZ 11 _ HB.out rfl
      have c12 := cell_rowZ 12 _ HB.out rfl
      have c13 := cell_rowZ 13 _ HB.out rfl
      have c14 := cell_rowZ 14 _ HB.out rfl
      have c15 := cell_rowZ 15 _ HB.out rfl
      go_wp2_with fail
      refine (HHL.out w1 HK1.out).mono ?_
      rintro e w3 ⟨rfl, k3⟩
      have HK3 := Lib.hid (HK1.out.trans k3)
      clear k3
      go_wp2
      go_ret
      exact ⟨by simp, HK3.out⟩
  · have q1 : decide (name.size ≤ 100) = false := decide_eq_false hz
    have q1' : ¬ (name.size : Int) ≤ 100 := by omega
    rw [q1]
    clear hz
    go_enter Try.func20, Try.ntmps20
    go_wp2
    rw [← HW1.out.1]
    go_ret
    exact ⟨rfl, HK1.out⟩
set_option maxRecDepth 100000 in
set_option maxHeartbeats 4000000 in
theorem pClone_any (x : Pnt) (aa pa na : Option Addr) (ac pc nc : Nat) (w : World) (ha : PntAt w x aa ac (.slice pa x.h.pl.length pc) (.slice na x.h.nl.length nc)) (hli : x.light) :
    Calls Try.prog 62 #[pntV x (.slice aa x.L.length ac) (.slice pa x.h.pl.length pc) (.slice na x.h.nl.length nc)] w fun e w' => ∃ a1 c1 a2 c2 a3 c3, e = .returned (pntV x (.slice a1 x.L.length c1) (.slice a2 x.h.pl.length c2) (.slice a3 x.h.nl.length c3)) ∧
      MineP w w' (.slice a1 x.L.length c1) x.L ∧ Mine w w' 25 (.slice a2 x.h.pl.length c2) (uvals x.h.pl) ∧ Mine w w' 25 (.slice a3 x.h.nl.length c3) (uvals x.h.nl) := by
  have HPC := Lib.hid (fun w' (k : Kept (fun _ => False) w w') => pclone_any aa ac x.L w' (ha.ps.kept k) (by have := hli.len; omega))
  have HHC := Lib.hid (fun w' (k : Kept (fun _ => False) w w') => hclone_any x.h (.slice pa x.h.pl.length pc) (.slice na x.h.nl.length nc) w' (ha.hist.on k) (by have := hli.pl; omega) (by have := hli.nl; omega))
  unfold pntV pntC
  unfold histV at HHC
  obtain ⟨name, L, kind, temp, mono, start, time, whole, re, im, ⟨sc, ze, po, pl, no, nl⟩, flags⟩ := x
  dsimp only at HPC HHC ⊢
  obtain ⟨al, hal⟩ : ∃ m, m = L.length := ⟨_, rfl⟩
  obtain ⟨m, hm⟩ : ∃ m, m = pl.length := ⟨_, rfl⟩
  obtain ⟨n, hn⟩ : ∃ n, n = nl.length := ⟨_, rfl⟩
  rw [← hal] at HPC
  rw [← hm, ← hn] at HHC
  rw [← hm, ← hn, ← hal]
  have HLN := Lib.hid (And.intro hal (And.intro hm hn))
  obtain ⟨q, hq⟩ : ∃ q, q = w.heap.size := ⟨_, rfl⟩
  obtain ⟨w2, hw2⟩ : ∃ w2, w2 = (w.alloc (.cells #[.string name, .slice aa al ac, .int .i64 kind, .int .i64 temp, .bool mono, .int .i64 start, .int .i64 time, .int .i64 whole, .int .u64 re, .int .u64 im, .int .i64 sc, .int .u64 (ze : Int), .int .i64 po, .slice pa m pc, .int .i64 no, .slice na n nc, .int .i64 flags] 37)).alloc (.cells #[.string { data := #[] }, .slice none 0 0, .int .i64 0, .int .i64 0, .bool false, .int .i64 0, .int .i64 0, .int .i64 0, .int .u64 0, .int .u64 0, .int .i64 0, .int .u64 0, .int .i64 0, .slice none 0 0, .int .i64 0, .slice none 0 0, .int .i64 0] 37) := ⟨_, rfl⟩
  have HK2 : Hid (Kept (fun _ => False) w w2) := Lib.hid (by rw [hw2]; exact ((Kept.refl _ _).alloc _).alloc _)
  have HB2 : Hid (w2.heap[q]? = some (.cells #[.string name, .slice aa al ac, .int .i64 kind, .int .i64 temp, .bool mono, .int .i64 start, .int .i64 time, .int .i64 whole, .int .u64 re, .int .u64 im, .int .i64 sc, .int .u64 (ze : Int), .int .i64 po, .slice pa m pc, .int .i64 no, .slice na n nc, .int .i64 flags] 37 (0, 0))) := Lib.hid (by rw [hw2, hq]; exact ((Kept.refl (fun _ => False) _).alloc _).same (heap_alloc_new w _) (fun x => x))
  have HR2 : Hid (w2.heap[q + 1]? = some (.cells #[.string { data := #[] }, .slice none 0 0, .int .i64 0, .int .i64 0, .bool false, .int .i64 0, .int .i64 0, .int .i64 0, .int .u64 0, .int .u64 0, .int .i64 0, .int .u64 0, .int .i64 0, .slice none 0 0, .int .i64 0, .slice none 0 0, .int .i64 0] 37 (0, 0))) := Lib.hid (by rw [hw2, hq]; exact box_second2 w _ _)
  have HW2 := Lib.hid (And.intro hw2 hq)
  have k1 := cell_rowZ 1 _ HB2.out rfl
  clear hal hm hn hq hw2 ha hli
  go_enter Try.func62, Try.ntmps62
  go_upto_region 1 with fail
  rw [← HW2.out.1, ← HW2.out.2]
  go_wp2_with fail
  refine (HPC.out w2 HK2.out).mono ?_
  rintro e w3 ⟨v1, rfl, m1⟩
  obtain ⟨a1, c1, rfl⟩ := m1.slice
  rw [← HLN.out.1] at m1 ⊢
  have b3 := m1.kept.same HB2.out (fun x => x)
  have r3 := m1.kept.same HR2.out (fun x => x)
  have yc1 := cell_rowZ 1 _ b3 rfl
  have yf1 := free_of_rowZ 1 b3
  have HM1 := Lib.hid m1
  have HB3 := Lib.hid (And.intro b3 r3)
  clear m1 b3 r3 k1
  go_upto_region 2 with fail
  obtain ⟨w4, hw4⟩ : ∃ w4, w4 = w3.setCell ⟨q, 1, none⟩ (.slice a1 al c1) := ⟨_, rfl⟩
  have b4 : w4.heap[q]? = some (.cells #[.string name, .slice a1 al c1, .int .i64 kind, .int .i64 temp, .bool mono, .int .i64 start, .int .i64 time, .int .i64 whole, .int .u64 re, .int .u64 im, .int .i64 sc, .int .u64 (ze : Int), .int .i64 po, .slice pa m pc, .int .i64 no, .slice na n nc, .int .i64 flags] 37 (0, 0)) := by rw [hw4]; exact heap_setCell_same _ _ 1 _ _ _ HB3.out.1
  have k34 : Kept (fun k => k = q) w3 w4 := by rw [hw4]; exact (Kept.refl (fun k => k = q) w3).setCell (p := ⟨q, 1, none⟩) (fun _ => rfl) _
  have HR4 := Lib.hid (k34.same HB3.out.2 (by omega))
  have HM1b := Lib.hid ((HM1.out.down HK2.out).keptS k34 (fun j e x => own_box HM1.out.own HB3.out.1 (by decide) (by rw [e, x])) (fun j e => by have := HW2.out.2; omega))
  rw [← hw4]
  have HB4 := Lib.hid b4
  clear hw4 k34 yc1 yf1
  have zc10 := cell_rowZ 10 _ b4 rfl
  have zc11 := cell_rowZ 11 _ b4 rfl
  have zc12 := cell_rowZ 12 _ b4 rfl
  have zc13 := cell_rowZ 13 _ b4 rfl
  have zc14 := cell_rowZ 14 _ b4 rfl
  have zc15 := cell_rowZ 15 _ b4 rfl
  clear b4
  go_wp2_with fail
  refine (HHC.out w4 HM1b.out.kept).mono ?_
  rintro e w5 ⟨v2, v3, rfl, m2, m3⟩
  obtain ⟨a2, c2, rfl⟩ := m2.slice
  obtain ⟨a3, c3, rfl⟩ := m3.slice
  rw [uvals_length, ← HLN.out.2.1] at m2
  rw [uvals_length, ← HLN.out.2.2] at m3
  rw [uvals_length, uvals_length, ← HLN.out.2.1, ← HLN.out.2.2]
  have HM2 := Lib.hid m2
  have HM3 := Lib.hid m3
  have b5 := m2.kept.same HB4.out (fun x => x)
  have HB5 := Lib.hid b5
  have HR5 := Lib.hid (m2.kept.same HR4.out (fun x => x))
  have HM1c := Lib.hid (HM1b.out.on m2.kept)
  clear m2 m3 zc10 zc11 zc12 zc13 zc14 zc15
  have uc10 := cell_rowZ 10 _ b5 rfl
  have uf10 := free_of_rowZ 10 b5
  have uc11 := cell_rowZ 11 _ b5 rfl
  have uf11 := free_of_rowZ 11 b5
  have uc12 := cell_rowZ 12 _ b5 rfl
  have uf12 := free_of_rowZ 12 b5
  have uc13 := cell_rowZ 13 _ b5 rfl
  have uf13 := free_of_rowZ 13 b5
  have uc14 := cell_rowZ 14 _ b5 rfl
  have uf14 := free_of_rowZ 14 b5
  have uc15 := cell_rowZ 15 _ b5 rfl
  have uf15 := free_of_rowZ 15 b5
  clear b5
  go_upto_region 3 with fail
  obtain ⟨w6, hw6⟩ : ∃ w6, w6 = ((((((w5.setCell ⟨q, 10, none⟩ (.int .i64 sc)).setCell ⟨q, 11, none⟩ (.int .u64 (ze : Int))).setCell ⟨q, 12, none⟩ (.int .i64 po)).setCell ⟨q, 13, none⟩ (.slice a2 m c2)).setCell ⟨q, 14, none⟩ (.int .i64 no)).setCell ⟨q, 15, none⟩ (.slice a3 n c3)) := ⟨_, rfl⟩
  have b6 : w6.heap[q]? = some (.cells #[.string name, .slice a1 al c1, .int .i64 kind, .int .i64 temp, .bool mono, .int .i64 start, .int .i64 time, .int .i64 whole, .int .u64 re, .int .u64 im, .int .i64 sc, .int .u64 (ze : Int), .int .i64 po, .slice a2 m c2, .int .i64 no, .slice a3 n c3, .int .i64 flags] 37 (0, 0)) := by rw [hw6]; exact (heap_setCell_same _ _ 15 _ _ (.slice a3 n c3) (heap_setCell_same _ _ 14 _ _ (.int .i64 no) (heap_setCell_same _ _ 13 _ _ (.slice a2 m c2) (heap_setCell_same _ _ 12 _ _ (.int .i64 po) (heap_setCell_same _ _ 11 _ _ (.int .u64 (ze : Int)) (heap_setCell_same _ _ 10 _ _ (.int .i64 sc) HB5.out))))))
  have k56 : Kept (fun k => k = q) w5 w6 := by rw [hw6]; exact (((((((Kept.refl (fun k => k = q) w5).setCell (p := ⟨q, 10, none⟩) (fun _ => rfl) (.int .i64 sc)).setCell (p := ⟨q, 11, none⟩) (fun _ => rfl) (.int .u64 (ze : Int))).setCell (p := ⟨q, 12, none⟩) (fun _ => rfl) (.int .i64 po)).setCell (p := ⟨q, 13, none⟩) (fun _ => rfl) (.slice a2 m c2)).setCell (p := ⟨q, 14, none⟩) (fun _ => rfl) (.int .i64 no)).setCell (p := ⟨q, 15, none⟩) (fun _ => rfl) (.slice a3 n c3))
  rw [← hw6]
  have HB6 := Lib.hid b6
  have HR6 := Lib.hid (k56.same HR5.out (by omega))
  have hqw : w.heap.size ≤ q ∧ q < w2.heap.size := ⟨by have := HW2.out.2; omega, (Array.getElem?_eq_some_iff.1 HB2.out).1⟩
  have hq4 : ∀ {v : Value} {xs : List Value} {s n : Nat} {B : Nat} {E : TypeId}, w5.ownsRow B E s v n xs → E ≠ 37 → ∀ j, v.ownBlock = some j → ¬ j = q := fun h hE j e x => own_box h HB5.out hE (by rw [e, x])
  have k9 := setRow_keptW w6 (q + 1) #[.string name, .slice a1 al c1, .int .i64 kind, .int .i64 temp, .bool mono, .int .i64 start, .int .i64 time, .int .i64 whole, .int .u64 re, .int .u64 im, .int .i64 sc, .int .u64 (ze : Int), .int .i64 po, .slice a2 m c2, .int .i64 no, .slice a3 n c3, .int .i64 flags]
  have k69 : Kept (fun k => k = q ∨ k = q + 1) w5 (w6.setRow (q + 1) #[.string name, .slice a1 al c1, .int .i64 kind, .int .i64 temp, .bool mono, .int .i64 start, .int .i64 time, .int .i64 whole, .int .u64 re, .int .u64 im, .int .i64 sc, .int .u64 (ze : Int), .int .i64 po, .slice a2 m c2, .int .i64 no, .slice a3 n c3, .int .i64 flags]) := (k56.mono (fun _ _ e => .inl e)).trans (k9.mono (fun _ _ e => .inr e))
  have hn1 : ∀ {v : Value} {xs : List Value} {s n : Nat} {B : Nat} {E : TypeId}, w5.ownsRow B E s v n xs → E ≠ 37 → ∀ j, v.ownBlock = some j → ¬ (j = q ∨ j = q + 1) := fun h hE j e x => x.elim (fun x => own_box h HB5.out hE (by rw [e, x])) (fun x => own_box h HR5.out hE (by rw [e, x]))
  have HKF : Hid (Kept (fun _ => False) w (w6.setRow (q + 1) #[.string name, .slice a1 al c1, .int .i64 kind, .int .i64 temp, .bool mono, .int .i64 start, .int .i64 time, .int .i64 whole, .int .u64 re, .int .u64 im, .int .i64 sc, .int .u64 (ze : Int), .int .i64 po, .slice a2 m c2, .int .i64 no, .slice a3 n c3, .int .i64 flags])) := Lib.hid (HM1c.out.kept.newer k69 (fun j e => by rcases e with e | e <;> omega))
  have HO1 : Hid (MineP w (w6.setRow (q + 1) #[.string name, .slice a1 al c1, .int .i64 kind, .int .i64 temp, .bool mono, .int .i64 start, .int .i64 time, .int .i64 whole, .int .u64 re, .int .u64 im, .int .i64 sc, .int .u64 (ze : Int), .int .i64 po, .slice a2 m c2, .int .i64 no, .slice a3 n c3, .int .i64 flags]) (.slice a1 al c1) L) := Lib.hid ⟨k69.owns HM1c.out.own (hn1 HM1c.out.own (by decide)), HKF.out⟩
  have HO2 : Hid (Mine w (w6.setRow (q + 1) #[.string name, .slice a1 al c1, .int .i64 kind, .int .i64 temp, .bool mono, .int .i64 start, .int .i64 time, .int .i64 whole, .int .u64 re, .int .u64 im, .int .i64 sc, .int .u64 (ze : Int), .int .i64 po, .slice a2 m c2, .int .i64 no, .slice a3 n c3, .int .i64 flags]) 25 (.slice a2 m c2) (uvals pl)) := Lib.hid ⟨wown_base (k69.owns HM2.out.own (hn1 HM2.out.own (by decide))) HM1b.out.kept.size, HKF.out⟩
  have HO3 : Hid (Mine w (w6.setRow (q + 1) #[.string name, .slice a1 al c1, .int .i64 kind, .int .i64 temp, .bool mono, .int .i64 start, .int .i64 time, .int .i64 whole, .int .u64 re, .int .u64 im, .int .i64 sc, .int .u64 (ze : Int), .int .i64 po, .slice a2 m c2, .int .i64 no, .slice a3 n c3, .int .i64 flags]) 25 (.slice a3 n c3) (uvals nl)) := Lib.hid ⟨wown_base (k69.owns HM3.out.own (hn1 HM3.out.own (by decide))) HM1b.out.kept.size, HKF.out⟩
  have HF : Hid ((w6.setRow (q + 1) #[.string name, .slice a1 al c1, .int .i64 kind, .int .i64 temp, .bool mono, .int .i64 start, .int .i64 time, .int .i64 whole, .int .u64 re, .int .u64 im, .int .i64 sc, .int .u64 (ze : Int), .int .i64 po, .slice a2 m c2, .int .i64 no, .slice a3 n c3, .int .i64 flags]).heap[q + 1]? = some (.cells #[.string name, .slice a1 al c1, .int .i64 kind, .int .i64 temp, .bool mono, .int .i64 start, .int .i64 time, .int .i64 whole, .int .u64 re, .int .u64 im, .int .i64 sc, .int .u64 (ze : Int), .int .i64 po, .slice a2 m c2, .int .i64 no, .slice a3 n c3, .int .i64 flags] 37 (0, 0))) := Lib.hid (setRow_heap _ _ _ _ _ _ HR6.out)
  clear hw6 b6 k56 hqw hq4 k9 k69 hn1 uc10 uf10 uc11 uf11 uc12 uf12 uc13 uf13 uc14 uf14 uc15 uf15
  go_wp2_with (first
    | (refine wpList_load_row rfl 37 (.tmp 1) rfl q rfl 37 _ (0, 0) _ HB6.out Try.underlying37 rfl point_info ?_)
    | (refine wpList_store_row rfl 37 (.tmp 2) (.tmp 11) rfl (q + 1) #[.string name, .slice a1 al c1, .int .i64 kind, .int .i64 temp, .bool mono, .int .i64 start, .int .i64 time, .int .i64 whole, .int .u64 re, .int .u64 im, .int .i64 sc, .int .u64 (ze : Int), .int .i64 po, .slice a2 m c2, .int .i64 no, .slice a3 n c3, .int .i64 flags] rfl rfl 37 _ HR6.out point_info rfl (ptAll _ _ _ _ _ _ _ _ _ _ _ _ _ _ _ _ _ _ _ _ _ _ _) ?_)
    | fail)
  exact bodyPost_ret (results_cell_row Try.results62 _ _ (q + 1) 37 _ (0, 0) _ rfl HF.out Try.underlying37 rfl point_info) rfl ⟨_, _, _, _, _, _, rfl, HO1.out, HO2.out, HO3.out⟩
end Go.Proofs.Ytiiibhdohlpodaa
namespace Go.Proofs.Ytiiibhdohlpodaa
open Go.ChangeShapes Go.WideShapes Go.ChangeAt Go.RowKit
/-- A side that came in. -/
structure SideIn (W : World) (o : Int) (l : List Nat) (v : Value) : Prop where
  io : I64 o
  at_ : SlAt W v (uvals l)
  lt : ∀ x ∈ l, x < 18446744073709551616
  cap : ∀ a n c, v = .slice a n c → n ≤ c
theorem side_cells {H : Type} {enc : TypeId × Value → H} {W : World} {sp n : Nat} {c0 c1 : Value} {y : DataW H × List MemPlace} (h : DataW.trod enc Try.prog W sp (fun _ => true) true n 28 [c0, c1] = some y) :
    ∃ o l, c0 = .int .i64 o ∧ SideIn W o l c1 := by
  obtain ⟨y0, y1, m, _, _, h0, h1⟩ := trod_struct2 Try.underlying28 h
  have k0 : Try.prog.cellsOf 3 = 1 := by kernel_rfl
  have k1 : Try.prog.cellsOf 26 = 1 := by kernel_rfl
  simp only [k0, k1, List.drop_zero, List.drop_succ_cons, List.take_succ_cons, List.take_zero] at h0 h1
  cases m with
  | zero => simp [DataW.trod] at h0
  | succ m =>
  obtain ⟨o, e0, _, w0⟩ := DataW.trod_int Try.underlying3 h0
  obtain ⟨a, len, cap, e1⟩ := Go.Joins.slice_form Try.underlying26 h1
  injection e0 with e0 _
  injection e1 with e1 _
  subst e0 e1
  obtain ⟨zs, hr⟩ := isRow_of (d := y1.1) (p := y1.2) Try.underlying26 Try.underlying25 (by kernel_rfl) ⟨m + 1, by simpa [Value.cells] using h1⟩
  obtain ⟨l, hl, hlt, hat⟩ := hr.slAtN 18446744073709551616 (fun x hx => by have := bd_u64 hx; omega)
  refine ⟨o, l, rfl, ?_, hat, hlt, ?_⟩
  · have := bd_i64 w0; unfold I64; omega
  · intro a' n' c' e
    injection e with e1 e2 e3
    subst e2 e3
    rcases hr with ⟨_, h2, h3, _⟩ | ⟨_, _, h2, _⟩
    · omega
    · exact h2
theorem trod_struct12 {P : Program} {H : Type} {enc : TypeId × Value → H} {w : World} {base : Nat} {spare : Nat → Bool} {held : Bool} {t : TypeId} {f0 f1 f2 f3 f4 f5 f6 f7 f8 f9 f10 f11 : Field} {fuel : Nat} {cs : List Value} {x : DataW H × List MemPlace} (ht : P.underlying t = some (.struct #[f0, f1, f2, f3, f4, f5, f6, f7, f8, f9, f10, f11])) (h : DataW.trod enc P w base spare held fuel t cs = some x) :
    ∃ y0 y1 y2 y3 y4 y5 y6 y7 y8 y9 y10 y11 n, DataW.trod enc P w base spare held n f0.type ((cs.drop f0.offset).take (P.cellsOf f0.type)) = some y0 ∧ DataW.trod enc P w base spare held n f1.type ((cs.drop f1.offset).take (P.cellsOf f1.type)) = some y1 ∧ DataW.trod enc P w base spare held n f2.type ((cs.drop f2.offset).take (P.cellsOf f2.type)) = some y2 ∧ DataW.trod enc P w base spare held n f3.type ((cs.drop f3.offset).take (P.cellsOf f3.type)) = some y3 ∧ DataW.trod enc P w base spare held n f4.type ((cs.drop f4.offset).take (P.cellsOf f4.type)) = some y4 ∧ DataW.trod enc P w base spare held n f5.type ((cs.drop f5.offset).take (P.cellsOf f5.type)) = some y5 ∧ DataW.trod enc P w base spare held n f6.type ((cs.drop f6.offset).take (P.cellsOf f6.type)) = some y6 ∧ DataW.trod enc P w base spare held n f7.type ((cs.drop f7.offset).take (P.cellsOf f7.type)) = some y7 ∧ DataW.trod enc P w base spare held n f8.type ((cs.drop f8.offset).take (P.cellsOf f8.type)) = some y8 ∧ DataW.trod enc P w base spare held n f9.type ((cs.drop f9.offset).take (P.cellsOf f9.type)) = some y9 ∧ DataW.trod enc P w base spare held n f10.type ((cs.drop f10.offset).take (P.cellsOf f10.type)) = some y10 ∧ DataW.trod enc P w base spare held n f11.type ((cs.drop f11.offset).take (P.cellsOf f11.type)) = some y11 := by
  obtain ⟨xs, n, _, rfl, hl, hlen, hf⟩ := DataW.trod_struct ht h
  match xs, hlen with
  | [y0, y1, y2, y3, y4, y5, y6, y7, y8, y9, y10, y11], _ => exact ⟨y0, y1, y2, y3, y4, y5, y6, y7, y8, y9, y10, y11, n, by simpa using hf 0 f0 rfl, by simpa using hf 1 f1 rfl, by simpa using hf 2 f2 rfl, by simpa using hf 3 f3 rfl, by simpa using hf 4 f4 rfl, by simpa using hf 5 f5 rfl, by simpa using hf 6 f6 rfl, by simpa using hf 7 f7 rfl, by simpa using hf 8 f8 rfl, by simpa using hf 9 f9 rfl, by simpa using hf 10 f10 rfl, by simpa using hf 11 f11 rfl⟩
/-- A histogram's cells that came in. -/
theorem hist_cells {H : Type} {enc : TypeId × Value → H} {W : World} {sp n : Nat} {c0 c1 c2 c3 c4 c5 : Value} {y : DataW H × List MemPlace} (hf : DataW.trod enc Try.prog W sp (fun _ => true) true n 30 [c0, c1, c2, c3, c4, c5] = some y) :
    ∃ (h : HistV), [c0, c1, c2, c3, c4, c5] = [.int .i64 h.sc, .int .u64 (h.ze : Int), .int .i64 h.po, c3, .int .i64 h.no, c5] ∧ HistAt W h c3 c5 ∧ h.ok := by
  obtain ⟨y0, y1, y2, y3, m, _, _, h0, h1, h2, h3⟩ := Go.Joins.trod_struct4 Try.underlying30 (cs := [c0, c1, c2, c3, c4, c5]) hf
  have k0 : Try.prog.cellsOf 3 = 1 := by kernel_rfl
  have k1 : Try.prog.cellsOf 25 = 1 := by kernel_rfl
  have k2 : Try.prog.cellsOf 28 = 2 := by kernel_rfl
  simp only [k0, k1, k2, List.drop_zero, List.drop_succ_cons, List.take_succ_cons, List.take_zero] at h0 h1 h2 h3
  cases m with
  | zero => simp [DataW.trod] at h0
  | succ m =>
  obtain ⟨sc, e0, _, w0⟩ := DataW.trod_int Try.underlying3 h0
  obtain ⟨ze, e1, _, w1⟩ := DataW.trod_int Try.underlying25 h1
  injection e0 with e0 _
  injection e1 with e1 _
  subst e0 e1
  obtain ⟨po, pl, rfl, hp⟩ := side_cells h2
  obtain ⟨no, nl, rfl, hn⟩ := side_cells h3
  have b0' := bd_i64 w0
  have b1' := bd_u64 w1
  refine ⟨⟨sc, ze.toNat, po, pl, no, nl⟩, ?_, ⟨hp.at_, hn.at_⟩, ⟨by simp only; omega, by simp only; omega, hp.io, hp.lt, hn.io, hn.lt⟩⟩
  simp only
  rw [show ((ze.toNat : Nat) : Int) = ze by omega]
end Go.Proofs.Ytiiibhdohlpodaa
namespace Go.Proofs.Ytiiibhdohlpodaa
open Go.RowKit
attribute [local go_sem ↓] Go.wp_at_zero Go.wp_at_succ
end Go.Proofs.Ytiiibhdohlpodaa
namespace Go.Proofs.Ytiiibhdohlpodaa
open Go.RowKit
attribute [local go_sem ↓] Go.wp_at_zero Go.wp_at_succ
end Go.Proofs.Ytiiibhdohlpodaa

