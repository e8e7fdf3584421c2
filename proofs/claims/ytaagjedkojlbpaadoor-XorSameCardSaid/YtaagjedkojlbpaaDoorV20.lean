/- package limnographref06: GetSmall. -/
import Derived.Test.YtaagjedkojlbpaaDoorV19
import Derived.Laws.Rows
namespace Go.Proofs.YtaagjedkojlbpaaDoor
open Go.RowKit
attribute [local go_sem ↓] Go.wp_at_zero Go.wp_at_succ

set_option maxHeartbeats 400000 in
theorem refZag_any (v : Int) (h0 : 0 ≤ v) (h1 : v ≤ 18446744073709551615) (w : World) :
    Calls Tryd.prog 23 #[.int .u64 v] w fun e w' => e = .returned (.int .i64 (zagI v)) ∧ w = w' := by
  by_cases h : v % 2 = 0
  · have hz : zagI v = v / 2 := if_pos h
    have q : (v % 2 == 0) = true := by simpa using h
    go_enter Tryd.func23, Tryd.ntmps23
    go_wp2
    go_ret
    exact ⟨ret_int (by rw [hz]), rfl⟩
  · have hz : zagI v = -1 - v / 2 := by unfold zagI; rw [if_neg h]; omega
    have q : (v % 2 == 0) = false := by simpa using h
    go_enter Tryd.func23, Tryd.ntmps23
    go_wp2
    go_ret
    exact ⟨ret_int (by rw [hz]), rfl⟩

theorem three_set {w : World} {g : Nat} {a b c x y z : Value} {T : TypeId} (h : w.heap[g]? = some (.cells #[a, b, c] T (0, 0))) : (((w.setCell ⟨g, 0, none⟩ x).setCell ⟨g, 1, none⟩ y).setCell ⟨g, 2, none⟩ z).heap[g]? = some (.cells #[x, y, z] T (0, 0)) := by
  simp [World.setCell, Array.getElem?_modify, h]
theorem three_kept {W w : World} {g : Nat} {x y z : Value} (h : Kept (fun _ => False) W w) (hg : W.heap.size ≤ g) : Kept (fun _ => False) W (((w.setCell ⟨g, 0, none⟩ x).setCell ⟨g, 1, none⟩ y).setCell ⟨g, 2, none⟩ z) :=
  ((h.setCell (p := ⟨g, 0, none⟩) (fun hlt => by simp only at hlt; omega) x).setCell (p := ⟨g, 1, none⟩) (fun hlt => by simp only at hlt; omega) y).setCell (p := ⟨g, 2, none⟩) (fun hlt => by simp only at hlt; omega) z
theorem got_info : (Tryd.prog.info? 44).map (·.size) = some 3 := by kernel_rfl
/-- A result of three numbers in its block. -/
def Got3 (w : World) (q : Nat) (V : Int) (N E : Int) : Prop := w.heap[q]? = some (.cells #[.int .u64 V, .int .i64 N, .int .i64 E] 44 (0, 0))
theorem Got3.c {w : World} {q : Nat} {V N E : Int} (h : Got3 w q V N E) : (w.cell? ⟨q, 0, none⟩ = some (.int .u64 V) ∧ w.cell? ⟨q, 1, none⟩ = some (.int .i64 N) ∧ w.cell? ⟨q, 2, none⟩ = some (.int .i64 E)) ∧ w.frozen? ⟨q, 0, none⟩ = false ∧ w.frozen? ⟨q, 1, none⟩ = false ∧ w.frozen? ⟨q, 2, none⟩ = false := by
  refine ⟨⟨?_, ?_, ?_⟩, ?_⟩
  · rw [cell_of_row _ _ 0 _ _ _ h]; rfl
  · rw [cell_of_row _ _ 1 _ _ _ h]; rfl
  · rw [cell_of_row _ _ 2 _ _ _ h]; rfl
  · unfold Got3 at h; simp [World.frozen?, h]
theorem Got3.set {w : World} {q : Nat} {V N E : Int} (h : Got3 w q V N E) (x y z : Int) : Got3 (((w.setCell ⟨q, 0, none⟩ (.int .u64 x)).setCell ⟨q, 1, none⟩ (.int .i64 y)).setCell ⟨q, 2, none⟩ (.int .i64 z)) q x y z := three_set h
/-- What a call answers that reads something. -/
def GotV (w : World) (V : Int) (N E : Nat) (e : Ending) (w' : World) : Prop :=
  e = .returned (.agg #[.int .u64 V, .int .i64 (N : Int), .int .i64 (E : Int)]) ∧ Kept (fun _ => False) w w'

theorem got_end {fn : Func} {p : Tmp} {a : Act} {P : Ending → World → Prop} {w : World} {q : Nat} {V N E : Int} (hres : fn.results = #[.cell p 44]) (hp : a.tmps.getD p undef = .pointer (some ⟨q, 0, none⟩)) (hd : a.defers = [])
    (hg : Got3 w q V N E) (h : P (.returned (.agg #[.int .u64 V, .int .i64 N, .int .i64 E])) w) : bodyPost Tryd.prog fn P .ret a w :=
  bodyPost_ret (v := .agg #[.int .u64 V, .int .i64 N, .int .i64 E]) (results_cell_row hres _ _ q 44 _ (0, 0) _ hp hg Tryd.underlying44 rfl got_info) hd h

theorem numB2 (l : List Bool) (h : 2 ≤ l.length) : numB (l.take 2) = 2 * (l.getD 0 false).toNat + (l.getD 1 false).toNat := by
  match l, h with
  | a :: b :: l, _ => cases a <;> cases b <;> rfl

set_option maxHeartbeats 4000000 in
set_option maxRecDepth 100000 in
theorem refGetSmall_any (v : Value) (l : List Bool) (w : World) (hv : SlAt w v (ints l)) (hcap : ∀ a n c, v = .slice a n c → n ≤ c) (hl : l.length ≤ 100000000) :
    Calls Tryd.prog 21 #[v] w (GotV w (gotSmall l).1 (gotSmall l).2.1 (gotSmall l).2.2) := by
  have hlen := ints_length l
  have hv0 := Lib.hid hv
  obtain ⟨ao, cp, hval, _, _⟩ := hv.val
  rw [hlen] at hval
  subst hval
  have hcp := hcap _ _ _ rfl
  obtain ⟨iI, hiI, hzI0, hzI1, hzI2⟩ := info_parts Tryd.infoInt
  obtain ⟨w0, hw0⟩ : ∃ w0, w0 = w.alloc (.cells #[.int .u64 0, .int .i64 0, .int .i64 0] 44) := ⟨_, rfl⟩
  have K0 : Kept (fun _ => False) w w0 := by rw [hw0]; exact (Kept.refl _ w).alloc _
  have G0 : Got3 w0 w.heap.size 0 0 0 := by rw [hw0]; exact heap_alloc_new w _
  have HFIN := Lib.hid fun w2 (V : Int) (N E : Nat) (h : Kept (fun _ => False) w0 w2) => show GotV w V N E (.returned (.agg #[.int .u64 V, .int .i64 (N : Int), .int .i64 (E : Int)])) _ from ⟨rfl, three_kept (x := .int .u64 V) (y := .int .i64 (N : Int)) (z := .int .i64 (E : Int)) (K0.trans h) (Nat.le_refl _)⟩
  have HG := Lib.hid fun w2 (h : Kept (fun _ => False) w0 w2) => show Got3 w2 w.heap.size 0 0 0 from h.same G0 (fun x => x)
  have HK0 := Lib.hid K0
  rcases gotSmall_cases l with ⟨h2, e⟩ | ⟨h2, c, S, hc, hc4, hS, hS64, hrest⟩
  · rw [e]
    have q1 : (l.length : Int) < 2 := by omega
    clear hv hlen hcp hcap hw0 e h2 K0 G0
    go_enter Tryd.func21, Tryd.ntmps21
    go_wp2
    refine got_end (V := 0) (N := 0) (E := 2) Tryd.results21 rfl rfl (heap_alloc_new w _) ?_
    exact ⟨rfl, (Kept.refl _ _).alloc _⟩
  · rw [numB2 l h2] at hc
    obtain ⟨g, off, e1, b0⟩ := hv.elem (ints_get (j := 0) (by omega))
    subst e1
    obtain ⟨_, _, e', b1⟩ := hv.elem (ints_get (j := 1) (by omega))
    injection e' with e'; injection e' with e1 e2; subst e1; subst e2
    rw [Nat.add_zero] at b0
    obtain ⟨A0, hA0⟩ : ∃ A0, A0 = (l.getD 0 false).toNat := ⟨_, rfl⟩
    obtain ⟨A1, hA1⟩ : ∃ A1, A1 = (l.getD 1 false).toNat := ⟨_, rfl⟩
    rw [← hA0] at b0 hc
    rw [← hA1] at b1 hc
    have a0 : A0 ≤ 1 := by rw [hA0]; exact Bool.toNat_le _
    have a1 : A1 ≤ 1 := by rw [hA1]; exact Bool.toNat_le _
    have c0 := K0.cell b0 (fun x => x)
    have c1 := K0.cell b1 (fun x => x)
    have m1 : IntKind.i64.wrap (2 * (A0 : Int)) = 2 * (A0 : Int) := IntWalk.i64_in _ ⟨by omega, by omega⟩
    have m2 : 2 * (A0 : Int) + (A1 : Int) = (c : Int) := by omega
    have m3 : IntKind.i64.wrap (c : Int) = (c : Int) := IntWalk.i64_in _ ⟨by omega, by omega⟩
    have q0 : (0 : Int) < (l.length : Int) := by omega
    have q01 : 0 < l.length := by omega
    have q1 : (1 : Int) < (l.length : Int) := by omega
    have q2 : ¬ (l.length : Int) < 2 := by omega
    have q2b : decide (l.length < 2) = false := decide_eq_false (by omega)
    have HSZ := Lib.hid (refSize_any c hc4)
    rw [← hS] at HSZ
    have HW0 := Lib.hid hw0
    have hS0 : (S : Int) ≤ 64 := by omega
    have sw : IntKind.i64.wrap ((l.length : Int) - 2) = (l.length : Int) - 2 := IntWalk.i64_in _ ⟨by omega, by omega⟩
    rcases hrest with ⟨h3, e⟩ | ⟨h3, x, hx, hx64, hrest⟩
    · rw [e]
      have q3 : (l.length : Int) - 2 < (S : Int) := by omega
      clear hv hlen hcp hcap hw0 e h2 K0 G0 h3 hS hc hA0 hA1 b0 b1
      go_enter Tryd.func21, Tryd.ntmps21
      go_wp2
      rw [← HW0.out]
      go_quiet (fail)
      obtain ⟨w1, hw1⟩ : ∃ w1, w1 = w0.drewN nq := ⟨_, rfl⟩
      have K1 := Lib.hid (show Kept (fun _ => False) w0 w1 from by rw [hw1]; exact (Kept.refl _ _).drewN _)
      rw [← hw1]
      clear hw1 c0 c1
      go_wp2_with (go_at_call 49; refine (HSZ.out _).mono ?_; rintro e w2 ⟨rfl, hk⟩; have K2 := Lib.hid (K1.out.trans hk); have G2 := Lib.hid (HG.out _ K2.out); obtain ⟨⟨g0, g1, g2⟩, f0, f1, f2⟩ := G2.out.c; clear hk)
      refine got_end (V := 0) (N := 0) (E := 2) Tryd.results21 rfl rfl (G2.out.set 0 0 2) ?_
      exact HFIN.out _ 0 0 2 K2.out
    · obtain ⟨T, hT⟩ : ∃ T, T = 2 + S := ⟨_, rfl⟩
      have t1 : 2 + (S : Int) = (T : Int) := by omega
      have t2 : IntKind.i64.wrap (T : Int) = (T : Int) := IntWalk.i64_in _ ⟨by omega, by omega⟩
      have q3 : ¬ (l.length : Int) - 2 < (S : Int) := by omega
      have hct := hv0.out.cut (lo := 2) (hi := T) (by omega) (by omega) hcp
      obtain ⟨ao2, hao2⟩ : ∃ a : Option Addr, a = if cp = 2 then some ⟨g, off, none⟩ else (some (⟨g, off, none⟩ : Addr)).map (·.add 2) := ⟨_, rfl⟩
      rw [← hao2] at hct
      have hTS : T - 2 = S := by omega
      have s1 : ∀ w, (Instr.slice 26 (.slice (some ⟨g, off, none⟩) l.length cp) (some (.int .i64 2)) (some (.int .i64 (T : Int))) none).run Tryd.prog w = .ok (.slice ao2 S (cp - 2)) w := fun w => by
        have := run_cut (P := Tryd.prog) Tryd.underlying26 hiI hzI1 (some ⟨g, off, none⟩) l.length cp 2 T (by omega) (by omega) w
        rw [← hao2, hTS] at this; exact this
      have s2 : ∀ w, (Instr.sliceAt 26 (.slice (some ⟨g, off, none⟩) l.length cp) (some (.int .i64 2)) (some (.int .i64 (T : Int))) none).run Tryd.prog w = .ok (.slice ao2 S (cp - 2)) w := fun w => by
        have := run_cutAt (P := Tryd.prog) Tryd.underlying26 hiI hzI1 (some ⟨g, off, none⟩) l.length cp 2 T (by omega) (by omega) w
        rw [← hao2, hTS] at this; exact this
      rw [hTS] at hct
      have hbx : (ints l).drop 2 = ints (l.drop 2) := by unfold ints; rw [List.map_drop]
      have hbx2 : (ints (l.drop 2)).take S = ints ((l.drop 2).take S) := by unfold ints; rw [List.map_take]
      rw [hbx, hbx2] at hct
      have HNUM := Lib.hid fun w1 (h : Kept (fun _ => False) w w1) => refNumber_any _ _ w1 (hct.kept h (fun _ _ x => x)) (by rw [List.length_take]; omega)
      simp only [← hx] at HNUM
      have HCLS := Lib.hid (refClass_any x hx64)
      obtain ⟨C, hC⟩ : ∃ C, C = classN x := ⟨_, rfl⟩
      rw [← hC] at HCLS hrest
      have HT := Lib.hid hT
      rcases hrest with ⟨h4, e⟩ | ⟨h4, e⟩
      all_goals
        rw [e]
        first
          | have hne : ((C : Int) != (c : Int)) = false := by simp; omega
          | have hne : ((C : Int) != (c : Int)) = true := by simp; omega
        clear hv hlen hcp hcap hw0 e h2 K0 G0 h3 hS hc hA0 hA1 b0 b1 hct hao2 hTS hbx hbx2 hT hC hx h4
        go_enter Tryd.func21, Tryd.ntmps21
        go_wp2
        rw [← HW0.out]
        go_quiet (fail)
        obtain ⟨w1, hw1⟩ : ∃ w1, w1 = w0.drewN nq := ⟨_, rfl⟩
        have K1 := Lib.hid (show Kept (fun _ => False) w0 w1 from by rw [hw1]; exact (Kept.refl _ _).drewN _)
        rw [← hw1]
        clear hw1 c0 c1
        go_wp2_with (first
          | (go_at_call 49; refine (HSZ.out _).mono ?_; rintro e w2 ⟨rfl, hk⟩; have K2 := Lib.hid (K1.out.trans hk); clear hk)
          | (go_at_call 52; refine (HNUM.out _ (HK0.out.trans K2.out)).mono ?_; rintro e w' ⟨rfl, rfl⟩)
          | (go_at_call 47; refine (HCLS.out _).mono ?_; rintro e w3 ⟨rfl, hk⟩; have K3 := Lib.hid (K2.out.trans hk); have G3 := Lib.hid (HG.out _ K3.out); obtain ⟨⟨g0, g1, g2⟩, f0, f1, f2⟩ := G3.out.c; clear hk))
      · refine got_end (V := 0) (N := 0) (E := 3) Tryd.results21 rfl rfl (G3.out.set 0 0 3) ?_
        exact HFIN.out _ 0 0 3 K3.out
      · refine got_end (V := (x : Int)) (N := (T : Int)) (E := 0) Tryd.results21 rfl rfl (G3.out.set x T 0) ?_
        rw [← HT.out]
        exact HFIN.out _ x T 0 K3.out
end Go.Proofs.YtaagjedkojlbpaaDoor
