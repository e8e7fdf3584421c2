/- Texts put together: Z28, Z29, V20, Z30, Z31. -/
import Derived.Test.YtjpnfadmblmjbaaDoorZz12
import Derived.Test.YtjpnfadmblmjbaaDoorZz15
import Derived.Deep.Slices
import Derived.Deep.Fields
import Derived.ChangeSame
import Derived.Lib.SmallJoins
import Derived.Test.YtjpnfadmblmjbaaDoorZz7
import Derived.Laws.Rows
/- Histograms in a slice that came in. -/
namespace Go.Proofs.YtjpnfadmblmjbaaDoor
open Go.ChangeShapes Go.WideShapes Go.ChangeAt Go.Deep Go.RowKit

/-- Histograms that came in. -/
structure HistsIn (W : World) (ao : Option Addr) (L : List HP) : Prop where
  at_ : HsAt W ao L
  each : ∀ p ∈ L, HistAt W p.h p.pv p.nv ∧ p.h.ok

set_option maxRecDepth 100000 in
theorem hist_at_cells {H : Type} {enc : TypeId × Value → H} {W : World} {sp n : Nat} {c0 c1 c2 c3 c4 c5 : Value} {y : DataW H × List MemPlace} (hf : DataW.trod enc Tryd.prog W sp (fun _ => true) true n 62 [c0, c1, c2, c3, c4, c5] = some y) :
    ∃ p : HP, (c0 = .int .i64 p.h.sc ∧ c1 = .int .u64 (p.h.ze : Int) ∧ c2 = .int .i64 p.h.po ∧ c3 = p.pv ∧ c4 = .int .i64 p.h.no ∧ c5 = p.nv) ∧ HistAt W p.h p.pv p.nv ∧ p.h.ok := by
  obtain ⟨y0, y1, y2, y3, m, _, _, h0, h1, h2, h3⟩ := Go.Joins.trod_struct4 Tryd.underlying62 (cs := [c0, c1, c2, c3, c4, c5]) hf
  have k0 : Tryd.prog.cellsOf 3 = 1 := by kernel_rfl
  have k1 : Tryd.prog.cellsOf 28 = 1 := by kernel_rfl
  have k2 : Tryd.prog.cellsOf 60 = 2 := by kernel_rfl
  simp only [k0, k1, k2, List.drop_zero, List.drop_succ_cons, List.take_succ_cons, List.take_zero] at h0 h1 h2 h3
  cases m with
  | zero => simp [DataW.trod] at h0
  | succ m =>
  obtain ⟨sc, e0, _, w0⟩ := DataW.trod_int Tryd.underlying3 h0
  obtain ⟨ze, e1, _, w1⟩ := DataW.trod_int Tryd.underlying28 h1
  injection e0 with e0 _
  injection e1 with e1 _
  subst e0 e1
  obtain ⟨po, pl, rfl, hp⟩ := side_cells h2
  obtain ⟨no, nl, rfl, hn⟩ := side_cells h3
  have b0' := bd_i64 w0
  have b1' := bd_u64 w1
  obtain ⟨⟨ao, c, rfl⟩, bo, d, rfl⟩ := HistAt.sl (h := ⟨sc, ze.toNat, po, pl, no, nl⟩) ⟨hp.at_, hn.at_⟩
  refine ⟨⟨⟨sc, ze.toNat, po, pl, no, nl⟩, ao, c, bo, d⟩, ⟨rfl, ?_, rfl, rfl, rfl, rfl⟩, ⟨hp.at_, hn.at_⟩, ⟨by simp only; omega, by simp only; omega, hp.io, hp.lt, hn.io, hn.lt⟩⟩
  simp only
  rw [show ((ze.toNat : Nat) : Int) = ze by omega]

set_option maxRecDepth 100000 in
theorem hists_of {H : Type} {enc : TypeId × Value → H} {W : World} {sp : Nat} {a : Option Addr} {len cap : Nat} {d : DataW H} {p : List MemPlace}
    (h : DataW.Trod enc Tryd.prog W sp (fun _ => true) true 58 (.slice a len cap) d p) : ∃ L : List HP, L.length = len ∧ HistsIn W a L ∧ len ≤ cap ∧ len ≤ 9223372036854775807 := by
  obtain ⟨fuel, hf⟩ := h
  have k6 : Tryd.prog.cellsOf 62 = 6 := by kernel_rfl
  rcases open_slice Tryd.underlying58 hf with ⟨hcs, _⟩ | ⟨x, l, c, m, n, D, Pl, hcs, _, hl, hm, hmm, _, hi⟩
  · simp [Value.cells] at hcs
    obtain ⟨rfl, rfl, rfl⟩ := hcs
    exact ⟨[], rfl, ⟨fun h => absurd h (by simp), by simp⟩, Nat.le_refl _, by omega⟩
  · simp [Value.cells] at hcs
    obtain ⟨rfl, rfl, rfl⟩ := hcs
    unfold maxLen at hm
    rcases Nat.eq_zero_or_pos len with h0 | h0
    · subst h0
      exact ⟨[], rfl, ⟨fun h => absurd h (by simp), by simp⟩, by omega, by omega⟩
    · have key0 : ∀ i, i < len → ∃ q : HP, (∀ j u, (([.int .i64 q.h.sc, .int .u64 (q.h.ze : Int), .int .i64 q.h.po, q.pv, .int .i64 q.h.no, q.nv] : List Value)[j]? = some u) → W.cell? (x.add (i * 6 + j)) = some u) ∧ HistAt W q.h q.pv q.nv ∧ q.h.ok := by
        intro i hi'
        obtain ⟨cs', hc, ht'⟩ := hi i (by simp at hmm; omega)
        rw [k6] at hc
        obtain ⟨hlen, hcl, hat⟩ := World.cells?_some hc
        match cs', hcl with
        | [c0, c1, c2, c3, c4, c5], _ =>
          obtain ⟨q, ⟨e0, e1, e2, e3, e4, e5⟩, hq1, hq2⟩ := hist_at_cells ht'
          subst e0 e1 e2 e3 e4 e5
          refine ⟨q, fun j u hj => ?_, hq1, hq2⟩
          have hj6 : j < 6 := by
            have := (List.getElem?_eq_some_iff.1 hj).1
            simpa using this
          have := hat j hj6
          rw [Go.Deep.add_add] at this
          rw [this]
          exact hj
      obtain ⟨g, o, spot⟩ := x
      have hspot : spot = Option.none := by
        obtain ⟨q, hq, _⟩ := key0 0 h0
        have c0 := hq 0 _ rfl
        simpa [Addr.add] using World.cell?_spot c0
      subst hspot
      have key : ∀ i, i < len → ∃ q : HP, HElt W g (o + i * 6) q ∧ HistAt W q.h q.pv q.nv ∧ q.h.ok := by
        intro i hi'
        obtain ⟨q, hq, h1⟩ := key0 i hi'
        refine ⟨q, ⟨?_, ?_, ?_, ?_, ?_, ?_⟩, h1⟩
        · have := hq 0 _ rfl; rwa [Go.WideShapes.add_plain] at this
        · have := hq 1 _ rfl; rwa [Go.WideShapes.add_plain] at this
        · have := hq 2 _ rfl; rwa [Go.WideShapes.add_plain] at this
        · have := hq 3 _ rfl; rwa [Go.WideShapes.add_plain] at this
        · have := hq 4 _ rfl; rwa [Go.WideShapes.add_plain] at this
        · have := hq 5 _ rfl; rwa [Go.WideShapes.add_plain] at this
      obtain ⟨rs, hrs, hp⟩ := choose_list key
      refine ⟨rs, hrs, ⟨fun _ => ⟨g, o, rfl, fun i p hi => (hp i p hi).1⟩, fun p hpm => ?_⟩, hl, by omega⟩
      obtain ⟨i, hi, e⟩ := List.getElem_of_mem hpm
      exact (hp i p (by rw [List.getElem?_eq_getElem hi, e])).2
end Go.Proofs.YtjpnfadmblmjbaaDoor
/- Layer 10: the walk of 'HistbitsRows' as the frame wants it. -/
namespace Go.Proofs.YtjpnfadmblmjbaaDoor
open Go.RowKit

theorem histbitsRows_walk (a : Option Addr) (cap : Nat) (L : List HP) (x : HistV) (pv nv : Value) (W : World) (w0 : HistsIn W a L) (hm : L.length ≤ 9223372036854775807) (i1 : HistIn W x pv nv) (HT : ClassTab W) :
    Calls Tryd.prog 7 #[.slice a L.length cap, histV x pv nv] W fun e w' => e = .returned (.bool true) ∧ Kept (fun _ => False) W w' :=
  rows10_walk0 a cap L x pv nv W w0.at_ w0.each i1.at_ i1.ok hm HT (World.block_lt_of_cell? W _ (HT 0 (by omega)))
end Go.Proofs.YtjpnfadmblmjbaaDoor
/- package limnographref06: GetSmall. -/
namespace Go.Proofs.YtjpnfadmblmjbaaDoor
open Go.RowKit
attribute [local go_sem ↓] Go.wp_at_zero Go.wp_at_succ

set_option maxHeartbeats 400000 in
theorem refZag_any (v : Int) (h0 : 0 ≤ v) (h1 : v ≤ 18446744073709551615) (w : World) :
    Calls Tryd.prog 23 #[.int .u64 v] w fun e w' => e = .returned (.int .i64 (zagI v)) ∧ w = w' := by
  by_cases h : v % 2 = 0
  · have hz : zagI v = v / 2 := if_pos h
    have q : (v % 2 == 0) = true := by simpa using h
    go_enter Tryd.func23, Tryd.ntmps23
    go_wp2
    go_ret
    exact ⟨ret_int (by rw [hz]), rfl⟩
  · have hz : zagI v = -1 - v / 2 := by unfold zagI; rw [if_neg h]; omega
    have q : (v % 2 == 0) = false := by simpa using h
    go_enter Tryd.func23, Tryd.ntmps23
    go_wp2
    go_ret
    exact ⟨ret_int (by rw [hz]), rfl⟩

theorem three_set {w : World} {g : Nat} {a b c x y z : Value} {T : TypeId} (h : w.heap[g]? = some (.cells #[a, b, c] T (0, 0))) : (((w.setCell ⟨g, 0, none⟩ x).setCell ⟨g, 1, none⟩ y).setCell ⟨g, 2, none⟩ z).heap[g]? = some (.cells #[x, y, z] T (0, 0)) := by
  simp [World.setCell, Array.getElem?_modify, h]
theorem three_kept {W w : World} {g : Nat} {x y z : Value} (h : Kept (fun _ => False) W w) (hg : W.heap.size ≤ g) : Kept (fun _ => False) W (((w.setCell ⟨g, 0, none⟩ x).setCell ⟨g, 1, none⟩ y).setCell ⟨g, 2, none⟩ z) :=
  ((h.setCell (p := ⟨g, 0, none⟩) (fun hlt => by simp only at hlt; omega) x).setCell (p := ⟨g, 1, none⟩) (fun hlt => by simp only at hlt; omega) y).setCell (p := ⟨g, 2, none⟩) (fun hlt => by simp only at hlt; omega) z
theorem got_info : (Tryd.prog.info? 44).map (·.size) = some 3 := by kernel_rfl
/-- A result of three numbers in its block. -/
def Got3 (w : World) (q : Nat) (V : Int) (N E : Int) : Prop := w.heap[q]? = some (.cells #[.int .u64 V, .int .i64 N, .int .i64 E] 44 (0, 0))
theorem Got3.c {w : World} {q : Nat} {V N E : Int} (h : Got3 w q V N E) : (w.cell? ⟨q, 0, none⟩ = some (.int .u64 V) ∧ w.cell? ⟨q, 1, none⟩ = some (.int .i64 N) ∧ w.cell? ⟨q, 2, none⟩ = some (.int .i64 E)) ∧ w.frozen? ⟨q, 0, none⟩ = false ∧ w.frozen? ⟨q, 1, none⟩ = false ∧ w.frozen? ⟨q, 2, none⟩ = false := by
  refine ⟨⟨?_, ?_, ?_⟩, ?_⟩
  · rw [cell_of_row _ _ 0 _ _ _ h]; rfl
  · rw [cell_of_row _ _ 1 _ _ _ h]; rfl
  · rw [cell_of_row _ _ 2 _ _ _ h]; rfl
  · unfold Got3 at h; simp [World.frozen?, h]
theorem Got3.set {w : World} {q : Nat} {V N E : Int} (h : Got3 w q V N E) (x y z : Int) : Got3 (((w.setCell ⟨q, 0, none⟩ (.int .u64 x)).setCell ⟨q, 1, none⟩ (.int .i64 y)).setCell ⟨q, 2, none⟩ (.int .i64 z)) q x y z := three_set h
/-- What a call answers that reads something. -/
def GotV (w : World) (V : Int) (N E : Nat) (e : Ending) (w' : World) : Prop :=
  e = .returned (.agg #[.int .u64 V, .int .i64 (N : Int), .int .i64 (E : Int)]) ∧ Kept (fun _ => False) w w'

theorem got_end {fn : Func} {p : Tmp} {a : Act} {P : Ending → World → Prop} {w : World} {q : Nat} {V N E : Int} (hres : fn.results = #[.cell p 44]) (hp : a.tmps.getD p undef = .pointer (some ⟨q, 0, none⟩)) (hd : a.defers = [])
    (hg : Got3 w q V N E) (h : P (.returned (.agg #[.int .u64 V, .int .i64 N, .int .i64 E])) w) : bodyPost Tryd.prog fn P .ret a w :=
  bodyPost_ret (v := .agg #[.int .u64 V, .int .i64 N, .int .i64 E]) (results_cell_row hres _ _ q 44 _ (0, 0) _ hp hg Tryd.underlying44 rfl got_info) hd h

theorem numB2 (l : List Bool) (h : 2 ≤ l.length) : numB (l.take 2) = 2 * (l.getD 0 false).toNat + (l.getD 1 false).toNat := by
  match l, h with
  | a :: b :: l, _ => cases a <;> cases b <;> rfl

set_option maxHeartbeats 4000000 in
set_option maxRecDepth 100000 in
theorem refGetSmall_any (v : Value) (l : List Bool) (w : World) (hv : SlAt w v (ints l)) (hcap : ∀ a n c, v = .slice a n c → n ≤ c) (hl : l.length ≤ 100000000) :
    Calls Tryd.prog 21 #[v] w (GotV w (gotSmall l).1 (gotSmall l).2.1 (gotSmall l).2.2) := by
  have hlen := ints_length l
  have hv0 := Lib.hid hv
  obtain ⟨ao, cp, hval, _, _⟩ := hv.val
  rw [hlen] at hval
  subst hval
  have hcp := hcap _ _ _ rfl
  obtain ⟨iI, hiI, hzI0, hzI1, hzI2⟩ := info_parts Tryd.infoInt
  obtain ⟨w0, hw0⟩ : ∃ w0, w0 = w.alloc (.cells #[.int .u64 0, .int .i64 0, .int .i64 0] 44) := ⟨_, rfl⟩
  have K0 : Kept (fun _ => False) w w0 := by rw [hw0]; exact (Kept.refl _ w).alloc _
  have G0 : Got3 w0 w.heap.size 0 0 0 := by rw [hw0]; exact heap_alloc_new w _
  have HFIN := Lib.hid fun w2 (V : Int) (N E : Nat) (h : Kept (fun _ => False) w0 w2) => show GotV w V N E (.returned (.agg #[.int .u64 V, .int .i64 (N : Int), .int .i64 (E : Int)])) _ from ⟨rfl, three_kept (x := .int .u64 V) (y := .int .i64 (N : Int)) (z := .int .i64 (E : Int)) (K0.trans h) (Nat.le_refl _)⟩
  have HG := Lib.hid fun w2 (h : Kept (fun _ => False) w0 w2) => show Got3 w2 w.heap.size 0 0 0 from h.same G0 (fun x => x)
  have HK0 := Lib.hid K0
  rcases gotSmall_cases l with ⟨h2, e⟩ | ⟨h2, c, S, hc, hc4, hS, hS64, hrest⟩
  · rw [e]
    have q1 : (l.length : Int) < 2 := by omega
    clear hv hlen hcp hcap hw0 e h2 K0 G0
    go_enter Tryd.func21, Tryd.ntmps21
    go_wp2
    refine got_end (V := 0) (N := 0) (E := 2) Tryd.results21 rfl rfl (heap_alloc_new w _) ?_
    exact ⟨rfl, (Kept.refl _ _).alloc _⟩
  · rw [numB2 l h2] at hc
    obtain ⟨g, off, e1, b0⟩ := hv.elem (ints_get (j := 0) (by omega))
    subst e1
    obtain ⟨_, _, e', b1⟩ := hv.elem (ints_get (j := 1) (by omega))
    injection e' with e'; injection e' with e1 e2; subst e1; subst e2
    rw [Nat.add_zero] at b0
    obtain ⟨A0, hA0⟩ : ∃ A0, A0 = (l.getD 0 false).toNat := ⟨_, rfl⟩
    obtain ⟨A1, hA1⟩ : ∃ A1, A1 = (l.getD 1 false).toNat := ⟨_, rfl⟩
    rw [← hA0] at b0 hc
    rw [← hA1] at b1 hc
    have a0 : A0 ≤ 1 := by rw [hA0]; exact Bool.toNat_le _
    have a1 : A1 ≤ 1 := by rw [hA1]; exact Bool.toNat_le _
    have c0 := K0.cell b0 (fun x => x)
    have c1 := K0.cell b1 (fun x => x)
    have m1 : IntKind.i64.wrap (2 * (A0 : Int)) = 2 * (A0 : Int) := IntWalk.i64_in _ ⟨by omega, by omega⟩
    have m2 : 2 * (A0 : Int) + (A1 : Int) = (c : Int) := by omega
    have m3 : IntKind.i64.wrap (c : Int) = (c : Int) := IntWalk.i64_in _ ⟨by omega, by omega⟩
    have q0 : (0 : Int) < (l.length : Int) := by omega
    have q01 : 0 < l.length := by omega
    have q1 : (1 : Int) < (l.length : Int) := by omega
    have q2 : ¬ (l.length : Int) < 2 := by omega
    have q2b : decide (l.length < 2) = false := decide_eq_false (by omega)
    have HSZ := Lib.hid (refSize_any c hc4)
    rw [← hS] at HSZ
    have HW0 := Lib.hid hw0
    have hS0 : (S : Int) ≤ 64 := by omega
    have sw : IntKind.i64.wrap ((l.length : Int) - 2) = (l.length : Int) - 2 := IntWalk.i64_in _ ⟨by omega, by omega⟩
    rcases hrest with ⟨h3, e⟩ | ⟨h3, x, hx, hx64, hrest⟩
    · rw [e]
      have q3 : (l.length : Int) - 2 < (S : Int) := by omega
      clear hv hlen hcp hcap hw0 e h2 K0 G0 h3 hS hc hA0 hA1 b0 b1
      go_enter Tryd.func21, Tryd.ntmps21
      go_wp2
      rw [← HW0.out]
      go_quiet (fail)
      obtain ⟨w1, hw1⟩ : ∃ w1, w1 = w0.drewN nq := ⟨_, rfl⟩
      have K1 := Lib.hid (show Kept (fun _ => False) w0 w1 from by rw [hw1]; exact (Kept.refl _ _).drewN _)
      rw [← hw1]
      clear hw1 c0 c1
      go_wp2_with (go_at_call 52; refine (HSZ.out _).mono ?_; rintro e w2 ⟨rfl, hk⟩; have K2 := Lib.hid (K1.out.trans hk); have G2 := Lib.hid (HG.out _ K2.out); obtain ⟨⟨g0, g1, g2⟩, f0, f1, f2⟩ := G2.out.c; clear hk)
      refine got_end (V := 0) (N := 0) (E := 2) Tryd.results21 rfl rfl (G2.out.set 0 0 2) ?_
      exact HFIN.out _ 0 0 2 K2.out
    · obtain ⟨T, hT⟩ : ∃ T, T = 2 + S := ⟨_, rfl⟩
      have t1 : 2 + (S : Int) = (T : Int) := by omega
      have t2 : IntKind.i64.wrap (T : Int) = (T : Int) := IntWalk.i64_in _ ⟨by omega, by omega⟩
      have q3 : ¬ (l.length : Int) - 2 < (S : Int) := by omega
      have hct := hv0.out.cut (lo := 2) (hi := T) (by omega) (by omega) hcp
      obtain ⟨ao2, hao2⟩ : ∃ a : Option Addr, a = if cp = 2 then some ⟨g, off, none⟩ else (some (⟨g, off, none⟩ : Addr)).map (·.add 2) := ⟨_, rfl⟩
      rw [← hao2] at hct
      have hTS : T - 2 = S := by omega
      have s1 : ∀ w, (Instr.slice 26 (.slice (some ⟨g, off, none⟩) l.length cp) (some (.int .i64 2)) (some (.int .i64 (T : Int))) none).run Tryd.prog w = .ok (.slice ao2 S (cp - 2)) w := fun w => by
        have := run_cut (P := Tryd.prog) Tryd.underlying26 hiI hzI1 (some ⟨g, off, none⟩) l.length cp 2 T (by omega) (by omega) w
        rw [← hao2, hTS] at this; exact this
      have s2 : ∀ w, (Instr.sliceAt 26 (.slice (some ⟨g, off, none⟩) l.length cp) (some (.int .i64 2)) (some (.int .i64 (T : Int))) none).run Tryd.prog w = .ok (.slice ao2 S (cp - 2)) w := fun w => by
        have := run_cutAt (P := Tryd.prog) Tryd.underlying26 hiI hzI1 (some ⟨g, off, none⟩) l.length cp 2 T (by omega) (by omega) w
        rw [← hao2, hTS] at this; exact this
      rw [hTS] at hct
      have hbx : (ints l).drop 2 = ints (l.drop 2) := by unfold ints; rw [List.map_drop]
      have hbx2 : (ints (l.drop 2)).take S = ints ((l.drop 2).take S) := by unfold ints; rw [List.map_take]
      rw [hbx, hbx2] at hct
      have HNUM := Lib.hid fun w1 (h : Kept (fun _ => False) w w1) => refNumber_any _ _ w1 (hct.kept h (fun _ _ x => x)) (by rw [List.length_take]; omega)
      simp only [← hx] at HNUM
      have HCLS := Lib.hid (refClass_any x hx64)
      obtain ⟨C, hC⟩ : ∃ C, C = classN x := ⟨_, rfl⟩
      rw [← hC] at HCLS hrest
      have HT := Lib.hid hT
      rcases hrest with ⟨h4, e⟩ | ⟨h4, e⟩
      all_goals
        rw [e]
        first
          | have hne : ((C : Int) != (c : Int)) = false := by simp; omega
          | have hne : ((C : Int) != (c : Int)) = true := by simp; omega
        clear hv hlen hcp hcap hw0 e h2 K0 G0 h3 hS hc hA0 hA1 b0 b1 hct hao2 hTS hbx hbx2 hT hC hx h4
        go_enter Tryd.func21, Tryd.ntmps21
        go_wp2
        rw [← HW0.out]
        go_quiet (fail)
        obtain ⟨w1, hw1⟩ : ∃ w1, w1 = w0.drewN nq := ⟨_, rfl⟩
        have K1 := Lib.hid (show Kept (fun _ => False) w0 w1 from by rw [hw1]; exact (Kept.refl _ _).drewN _)
        rw [← hw1]
        clear hw1 c0 c1
        go_wp2_with (first
          | (go_at_call 52; refine (HSZ.out _).mono ?_; rintro e w2 ⟨rfl, hk⟩; have K2 := Lib.hid (K1.out.trans hk); clear hk)
          | (go_at_call 55; refine (HNUM.out _ (HK0.out.trans K2.out)).mono ?_; rintro e w' ⟨rfl, rfl⟩)
          | (go_at_call 50; refine (HCLS.out _).mono ?_; rintro e w3 ⟨rfl, hk⟩; have K3 := Lib.hid (K2.out.trans hk); have G3 := Lib.hid (HG.out _ K3.out); obtain ⟨⟨g0, g1, g2⟩, f0, f1, f2⟩ := G3.out.c; clear hk))
      · refine got_end (V := 0) (N := 0) (E := 3) Tryd.results21 rfl rfl (G3.out.set 0 0 3) ?_
        exact HFIN.out _ 0 0 3 K3.out
      · refine got_end (V := (x : Int)) (N := (T : Int)) (E := 0) Tryd.results21 rfl rfl (G3.out.set x T 0) ?_
        rw [← HT.out]
        exact HFIN.out _ x T 0 K3.out
end Go.Proofs.YtjpnfadmblmjbaaDoor
/- package limnographref10: bits that are read (written by tools/gen_XZ30.py). -/
namespace Go.Proofs.YtjpnfadmblmjbaaDoor
open Go.RowKit
attribute [local go_sem ↓] Go.wp_at_zero Go.wp_at_succ

/-- Bits that are read, a place, and the first error, in a block. -/
def StB (w : World) (b : Nat) (v : Value) (t E : Nat) : Prop := w.heap[b]? = some (.cells #[v, .int .i64 (t : Int), .int .i64 (E : Int)] 112 (0, 0))
theorem StB.c {w : World} {b : Nat} {v : Value} {t E : Nat} (h : StB w b v t E) : (w.cell? ⟨b, 0, none⟩ = some v ∧ w.cell? ⟨b, 1, none⟩ = some (.int .i64 (t : Int)) ∧ w.cell? ⟨b, 2, none⟩ = some (.int .i64 (E : Int))) ∧ w.frozen? ⟨b, 1, none⟩ = false ∧ w.frozen? ⟨b, 2, none⟩ = false := by
  refine ⟨⟨?_, ?_, ?_⟩, ?_⟩
  · rw [cell_of_row _ _ 0 _ _ _ h]; rfl
  · rw [cell_of_row _ _ 1 _ _ _ h]; rfl
  · rw [cell_of_row _ _ 2 _ _ _ h]; rfl
  · unfold StB at h; simp [World.frozen?, h]
theorem StB.same {S : Nat → Prop} {w w' : World} {b : Nat} {v : Value} {t E : Nat} (h : StB w b v t E) (k : Kept S w w') (hn : ¬ S b) : StB w' b v t E := k.same h hn
theorem StB.setT {w : World} {b : Nat} {v : Value} {t E : Nat} (h : StB w b v t E) (t' : Nat) : StB (w.setCell ⟨b, 1, none⟩ (.int .i64 (t' : Int))) b v t' E := heap_setCell_same _ _ 1 _ _ _ h
theorem StB.setE {w : World} {b : Nat} {v : Value} {t E : Nat} (h : StB w b v t E) (E' : Nat) : StB (w.setCell ⟨b, 2, none⟩ (.int .i64 (E' : Int))) b v t E' := heap_setCell_same _ _ 2 _ _ _ h
/-- A number of so many bits: the number, the place behind it, the error. -/
def bitsR (l : List Bool) (t E n : Nat) : Nat × Nat × Nat := if E ≠ 0 then (0, t, E) else if l.length - t < n then (0, t, 2) else (numB ((l.drop t).take n), t + n, 0)
/-- A small form: likewise. -/
def smallR (l : List Bool) (t E : Nat) : Nat × Nat × Nat := if E ≠ 0 then (0, t, E) else ((gotSmall (l.drop t)).1, t + (gotSmall (l.drop t)).2.1, (gotSmall (l.drop t)).2.2)
def StTo (w : World) (b : Nat) (v : Value) (k : IntKind) (R : Nat × Nat × Nat) (e : Ending) (w' : World) : Prop := e = .returned (.int k (R.1 : Int)) ∧ StB w' b v R.2.1 R.2.2 ∧ Kept (fun k => k = b) w w'

theorem cut_block (ao : Option Addr) (c t n m d e : Nat) : (Value.slice (if c = t then ao else ao.map (·.add t)) n d).ownBlock = (Value.slice ao m e).ownBlock := by
  split
  · cases ao <;> rfl
  · cases ao with
    | none => rfl
    | some a => simp [Value.ownBlock, add_block]
set_option maxHeartbeats 4000000 in
set_option maxRecDepth 100000 in
theorem stBits_any (b : Nat) (ao : Option Addr) (c : Nat) (l : List Bool) (t E n : Nat) (w : World) (h : StB w b (.slice ao l.length c) t E) (hv : SlAt w (.slice ao l.length c) (ints l)) (hvb : (Value.slice ao l.length c).ownBlock ≠ some b) (hc : l.length ≤ c) (ht : t ≤ l.length) (hl : l.length ≤ 100000000) (hn : n ≤ 60) :
    Calls Tryd.prog 77 #[.pointer (some ⟨b, 0, none⟩), .int .i64 (n : Int)] w (StTo w b (.slice ao l.length c) .i64 (bitsR l t E n)) := by
  obtain ⟨⟨c0, c1, c2⟩, f1, f2⟩ := h.c
  have HS := Lib.hid h
  have HV := Lib.hid hv
  by_cases hE : E = 0
  · have hR0 : bitsR l t E n = if l.length - t < n then (0, t, 2) else (numB ((l.drop t).take n), t + n, 0) := by unfold bitsR; rw [if_neg (fun e => e hE)]
    obtain ⟨Ln, hLn⟩ : ∃ k, k = l.length := ⟨_, rfl⟩
    rw [← hLn] at c0 HS HV hR0 hvb ⊢
    have w1 : IntKind.i64.wrap ((Ln : Int) - (t : Int)) = ((Ln - t : Nat) : Int) := by rw [IntWalk.i64_in _ ⟨by omega, by omega⟩]; omega
    obtain ⟨D, hD⟩ : ∃ d, d = Ln - t := ⟨_, rfl⟩
    rw [← hD] at w1 hR0
    have S0 : Hid ((fun w' => w'.cell? ⟨b, 0, none⟩ = some (.slice ao Ln c) ∧ w'.cell? ⟨b, 1, none⟩ = some (.int .i64 (t : Int))) w.drew) := Lib.hid ⟨(Kept.refl (fun _ => False) w).drew.cell c0 (fun x => x), (Kept.refl (fun _ => False) w).drew.cell c1 (fun x => x)⟩
    obtain ⟨wd, hwd⟩ : ∃ w', w' = w.drew := ⟨_, rfl⟩
    have kd : Kept (fun _ => False) w wd := by rw [hwd]; exact (Kept.refl _ _).drew
    have HWD := Lib.hid hwd
    have HKD := Lib.hid kd
    have HSD := Lib.hid (HS.out.same kd (fun x => x))
    by_cases hs : D < n
    · have g1 : (D : Int) < (n : Int) := by omega
      have HR := Lib.hid (hR0.trans (if_pos hs))
      subst hE
      obtain ⟨⟨d0, d1, d2⟩, e1, e2⟩ := HSD.out.c
      clear h hv hvb hc ht hl hn hLn hD hs hR0 hwd kd
      go_enter Tryd.func77, Tryd.ntmps77
      go_upto_region 3 with fail
      refine AnyBut.start (S := fun w' => w'.cell? ⟨b, 0, none⟩ = some (.slice ao Ln c) ∧ w'.cell? ⟨b, 1, none⟩ = some (.int .i64 (t : Int))) (k := 12) (by kernel_rfl) ?_
      refine AnyBut.takeS (i := 0) (v := ?v29) rfl (by kernel_rfl) (Nat.le_of_eq (by kernel_rfl)) (by kernel_rfl) (by kernel_rfl) (fun _ _ _ h => h) (S0.out) (Or.inl ⟨by kernel_rfl, ?hy29⟩) ?r29
      case hy29 =>
        intro w hSw
        try dsimp only at hSw
        go_simp
        try with_reducible rfl
      try simp only [Act.put, List.getElem_toArray, List.getElem_cons_zero, List.setIfInBounds_toArray, List.set_cons_zero, List.set_cons_succ]
      refine AnyBut.takeS (i := 1) (v := ?v30) rfl (by kernel_rfl) (Nat.le_of_eq (by kernel_rfl)) (by kernel_rfl) (by kernel_rfl) (fun _ _ _ h => h) (S0.out) (Or.inl ⟨by kernel_rfl, ?hy30⟩) ?r30
      case hy30 =>
        intro w hSw
        try dsimp only at hSw
        go_simp
        try with_reducible rfl
      try simp only [Act.put, List.getElem_toArray, List.getElem_cons_succ, List.getElem_cons_zero, List.setIfInBounds_toArray, List.set_cons_zero, List.set_cons_succ]
      refine AnyBut.takeS (i := 2) (v := ?v31) rfl (by kernel_rfl) (Nat.le_of_eq (by kernel_rfl)) (by kernel_rfl) (by kernel_rfl) (fun _ _ _ h => h) (S0.out) (Or.inl ⟨by kernel_rfl, ?hy31⟩) ?r31
      case hy31 =>
        intro w hSw
        try dsimp only at hSw
        go_simp
        try with_reducible rfl
      try simp only [Act.put, List.getElem_toArray, List.getElem_cons_succ, List.getElem_cons_zero, List.setIfInBounds_toArray, List.set_cons_zero, List.set_cons_succ]
      refine AnyBut.takeS (i := 3) (v := ?v32) rfl (by kernel_rfl) (Nat.le_of_eq (by kernel_rfl)) (by kernel_rfl) (by kernel_rfl) (fun _ _ _ h => h) (S0.out) (Or.inl ⟨by kernel_rfl, ?hy32⟩) ?r32
      case hy32 =>
        intro w hSw
        try dsimp only at hSw
        go_simp
        try with_reducible rfl
      try simp only [Act.put, List.getElem_toArray, List.getElem_cons_succ, List.getElem_cons_zero, List.setIfInBounds_toArray, List.set_cons_zero, List.set_cons_succ]
      refine AnyBut.takeS (i := 4) (v := ?v33) rfl (by kernel_rfl) (Nat.le_of_eq (by kernel_rfl)) (by kernel_rfl) (by kernel_rfl) (fun _ _ _ h => h) (S0.out) (Or.inl ⟨by kernel_rfl, ?hy33⟩) ?r33
      case hy33 =>
        intro w hSw
        try dsimp only at hSw
        go_simp
        try with_reducible rfl
      try simp only [Act.put, List.getElem_toArray, List.getElem_cons_succ, List.getElem_cons_zero, List.setIfInBounds_toArray, List.set_cons_zero, List.set_cons_succ]
      refine AnyBut.takeS (i := 5) (v := ?v34) rfl (by kernel_rfl) (Nat.le_of_eq (by kernel_rfl)) (by kernel_rfl) (by kernel_rfl) (fun _ _ _ h => h) (S0.out) (Or.inl ⟨by kernel_rfl, ?hy34⟩) ?r34
      case hy34 =>
        intro w hSw
        try dsimp only at hSw
        go_simp
        try with_reducible rfl
      try simp only [Act.put, List.getElem_toArray, List.getElem_cons_succ, List.getElem_cons_zero, List.setIfInBounds_toArray, List.set_cons_zero, List.set_cons_succ]
      refine AnyBut.takeS (i := 6) (v := ?v35) rfl (by kernel_rfl) (Nat.le_of_eq (by kernel_rfl)) (by kernel_rfl) (by kernel_rfl) (fun _ _ _ h => h) (S0.out) (Or.inl ⟨by kernel_rfl, ?hy35⟩) ?r35
      case hy35 =>
        intro w hSw
        try dsimp only at hSw
        go_simp
        try with_reducible rfl
      try simp only [Act.put, List.getElem_toArray, List.getElem_cons_succ, List.getElem_cons_zero, List.setIfInBounds_toArray, List.set_cons_zero, List.set_cons_succ]
      refine AnyBut.takeS (i := 7) (v := ?v36) rfl (by kernel_rfl) (Nat.le_of_eq (by kernel_rfl)) (by kernel_rfl) (by kernel_rfl) (fun _ _ _ h => h) (S0.out) (Or.inl ⟨by kernel_rfl, ?hy36⟩) ?r36
      case hy36 =>
        intro w hSw
        try dsimp only at hSw
        go_simp
        try with_reducible rfl
      try simp only [Act.put, List.getElem_toArray, List.getElem_cons_succ, List.getElem_cons_zero, List.setIfInBounds_toArray, List.set_cons_zero, List.set_cons_succ]
      refine AnyBut.takeS (i := 8) (v := ?v37) rfl (by kernel_rfl) (Nat.le_of_eq (by kernel_rfl)) (by kernel_rfl) (by kernel_rfl) (fun _ _ _ h => h) (S0.out) (Or.inl ⟨by kernel_rfl, ?hy37⟩) ?r37
      case hy37 =>
        intro w hSw
        try dsimp only at hSw
        go_simp
        try with_reducible rfl
      try simp only [Act.put, List.getElem_toArray, List.getElem_cons_succ, List.getElem_cons_zero, List.setIfInBounds_toArray, List.set_cons_zero, List.set_cons_succ]
      refine AnyBut.takeS (i := 9) (v := ?v38) rfl (by kernel_rfl) (Nat.le_of_eq (by kernel_rfl)) (by kernel_rfl) (by kernel_rfl) (fun _ _ _ h => h) (S0.out) (Or.inl ⟨by kernel_rfl, ?hy38⟩) ?r38
      case hy38 =>
        intro w hSw
        try dsimp only at hSw
        go_simp
        try with_reducible rfl
      try simp only [Act.put, List.getElem_toArray, List.getElem_cons_succ, List.getElem_cons_zero, List.setIfInBounds_toArray, List.set_cons_zero, List.set_cons_succ]
      refine AnyBut.takeS (i := 10) (v := ?v39) rfl (by kernel_rfl) (Nat.le_of_eq (by kernel_rfl)) (by kernel_rfl) (by kernel_rfl) (fun _ _ _ h => h) (S0.out) (Or.inl ⟨by kernel_rfl, ?hy39⟩) ?r39
      case hy39 =>
        intro w hSw
        try dsimp only at hSw
        go_simp
        try with_reducible rfl
      try simp only [Act.put, List.getElem_toArray, List.getElem_cons_succ, List.getElem_cons_zero, List.setIfInBounds_toArray, List.set_cons_zero, List.set_cons_succ]
      refine AnyBut.takeS (i := 11) (v := ?v40) rfl (by kernel_rfl) (Nat.le_of_eq (by kernel_rfl)) (by kernel_rfl) (by kernel_rfl) (fun _ _ _ h => h) (S0.out) (Or.inl ⟨by kernel_rfl, ?hy40⟩) ?r40
      case hy40 =>
        intro w hSw
        try dsimp only at hSw
        go_simp
        try with_reducible rfl
      try simp only [Act.put, List.getElem_toArray, List.getElem_cons_succ, List.getElem_cons_zero, List.setIfInBounds_toArray, List.set_cons_zero, List.set_cons_succ]
      refine AnyBut.done (by kernel_rfl) ?_
      rw [← HWD.out]
      go_wp2
      go_ret
      unfold StTo
      rw [HR.out]
      exact ⟨rfl, HSD.out.setE 2, (show Kept (fun k => k = b) w wd from keptTo HKD.out).setCell (p := ⟨b, 2, none⟩) (fun _ => rfl) _⟩
    · have g1 : ¬ (D : Int) < (n : Int) := by omega
      have HR := Lib.hid (hR0.trans (if_neg hs))
      subst hE
      obtain ⟨iI, hiI, hzI0, hzI1, hzI2⟩ := info_parts Tryd.infoInt
      obtain ⟨s, hs2⟩ : ∃ s, s = t + n := ⟨_, rfl⟩
      have w2 : IntKind.i64.wrap ((t : Int) + (n : Int)) = (s : Int) := by rw [IntWalk.i64_in _ ⟨by omega, by omega⟩]; omega
      have w3 : IntKind.i64.wrap ((s : Int) - (n : Int)) = (t : Int) := by rw [IntWalk.i64_in _ ⟨by omega, by omega⟩]; omega
      have hcut : ∀ w, _ := fun w => run_cut (P := Tryd.prog) Tryd.underlying26 hiI hzI1 ao Ln c t s (by omega) (by omega) w
      have hcutA : ∀ w, _ := fun w => run_cutAt (P := Tryd.prog) Tryd.underlying26 hiI hzI1 ao Ln c t s (by omega) (by omega) w
      have hsl := hv.cut (lo := t) (hi := s) (by omega) (by omega) (by omega)
      rw [show s - t = n by omega] at hcut hcutA
      rw [show s - t = n by omega] at hsl
      have hsl' : SlAt w (.slice (if c = t then ao else ao.map (·.add t)) n (c - t)) (ints ((l.drop t).take n)) := by
        have e : ints ((l.drop t).take n) = ((ints l).drop t).take n := by unfold ints; rw [List.map_take, List.map_drop]
        rw [e]; exact hsl
      obtain ⟨ax, hax⟩ : ∃ a, a = (if c = t then ao else ao.map (·.add t)) := ⟨_, rfl⟩
      obtain ⟨cx, hcx⟩ : ∃ a, a = c - t := ⟨_, rfl⟩
      rw [← hax, ← hcx] at hsl'
      rw [← hax, ← hcx] at hcut hcutA
      have HSL := Lib.hid hsl'
      have hnl : ((l.drop t).take n).length ≤ 64 := by rw [List.length_take]; omega
      have hnb := numB_lt ((l.drop t).take n)
      have hnb2 : numB ((l.drop t).take n) < 2 ^ 60 := Nat.lt_of_lt_of_le hnb (Nat.pow_le_pow_right (by omega) (by rw [List.length_take]; omega))
      have HNU := Lib.hid fun w' (k : SlAt w' (.slice ax n cx) (ints ((l.drop t).take n))) => refNumber_any _ _ w' k hnl
      obtain ⟨V, hV⟩ : ∃ v, v = numB ((l.drop t).take n) := ⟨_, rfl⟩
      rw [← hV] at HNU HR hnb2
      have w4 : IntKind.i64.wrap (V : Int) = (V : Int) := IntWalk.i64_in _ ⟨by omega, by omega⟩
      rw [← hs2] at HR
      have HBN := Lib.hid (show (Value.slice ax n cx).ownBlock ≠ some b by rw [hax, cut_block ao c t n Ln cx c]; exact hvb)
      obtain ⟨⟨d0, d1, d2⟩, e1, e2⟩ := HSD.out.c
      clear h hv hvb hc ht hl hn hLn hD hs hR0 hwd kd hs2 hsl hsl' hax hcx hnl hnb hnb2 hV hzI0 hzI1 hzI2 hiI
      go_enter Tryd.func77, Tryd.ntmps77
      go_upto_region 3 with fail
      refine AnyBut.start (S := fun w' => w'.cell? ⟨b, 0, none⟩ = some (.slice ao Ln c) ∧ w'.cell? ⟨b, 1, none⟩ = some (.int .i64 (t : Int))) (k := 12) (by kernel_rfl) ?_
      refine AnyBut.takeS (i := 0) (v := ?v17) rfl (by kernel_rfl) (Nat.le_of_eq (by kernel_rfl)) (by kernel_rfl) (by kernel_rfl) (fun _ _ _ h => h) (S0.out) (Or.inl ⟨by kernel_rfl, ?hy17⟩) ?r17
      case hy17 =>
        intro w hSw
        try dsimp only at hSw
        go_simp
        try with_reducible rfl
      try simp only [Act.put, List.getElem_toArray, List.getElem_cons_zero, List.setIfInBounds_toArray, List.set_cons_zero, List.set_cons_succ]
      refine AnyBut.takeS (i := 1) (v := ?v18) rfl (by kernel_rfl) (Nat.le_of_eq (by kernel_rfl)) (by kernel_rfl) (by kernel_rfl) (fun _ _ _ h => h) (S0.out) (Or.inl ⟨by kernel_rfl, ?hy18⟩) ?r18
      case hy18 =>
        intro w hSw
        try dsimp only at hSw
        go_simp
        try with_reducible rfl
      try simp only [Act.put, List.getElem_toArray, List.getElem_cons_succ, List.getElem_cons_zero, List.setIfInBounds_toArray, List.set_cons_zero, List.set_cons_succ]
      refine AnyBut.takeS (i := 2) (v := ?v19) rfl (by kernel_rfl) (Nat.le_of_eq (by kernel_rfl)) (by kernel_rfl) (by kernel_rfl) (fun _ _ _ h => h) (S0.out) (Or.inl ⟨by kernel_rfl, ?hy19⟩) ?r19
      case hy19 =>
        intro w hSw
        try dsimp only at hSw
        go_simp
        try with_reducible rfl
      try simp only [Act.put, List.getElem_toArray, List.getElem_cons_succ, List.getElem_cons_zero, List.setIfInBounds_toArray, List.set_cons_zero, List.set_cons_succ]
      refine AnyBut.takeS (i := 3) (v := ?v20) rfl (by kernel_rfl) (Nat.le_of_eq (by kernel_rfl)) (by kernel_rfl) (by kernel_rfl) (fun _ _ _ h => h) (S0.out) (Or.inl ⟨by kernel_rfl, ?hy20⟩) ?r20
      case hy20 =>
        intro w hSw
        try dsimp only at hSw
        go_simp
        try with_reducible rfl
      try simp only [Act.put, List.getElem_toArray, List.getElem_cons_succ, List.getElem_cons_zero, List.setIfInBounds_toArray, List.set_cons_zero, List.set_cons_succ]
      refine AnyBut.takeS (i := 4) (v := ?v21) rfl (by kernel_rfl) (Nat.le_of_eq (by kernel_rfl)) (by kernel_rfl) (by kernel_rfl) (fun _ _ _ h => h) (S0.out) (Or.inl ⟨by kernel_rfl, ?hy21⟩) ?r21
      case hy21 =>
        intro w hSw
        try dsimp only at hSw
        go_simp
        try with_reducible rfl
      try simp only [Act.put, List.getElem_toArray, List.getElem_cons_succ, List.getElem_cons_zero, List.setIfInBounds_toArray, List.set_cons_zero, List.set_cons_succ]
      refine AnyBut.takeS (i := 5) (v := ?v22) rfl (by kernel_rfl) (Nat.le_of_eq (by kernel_rfl)) (by kernel_rfl) (by kernel_rfl) (fun _ _ _ h => h) (S0.out) (Or.inl ⟨by kernel_rfl, ?hy22⟩) ?r22
      case hy22 =>
        intro w hSw
        try dsimp only at hSw
        go_simp
        try with_reducible rfl
      try simp only [Act.put, List.getElem_toArray, List.getElem_cons_succ, List.getElem_cons_zero, List.setIfInBounds_toArray, List.set_cons_zero, List.set_cons_succ]
      refine AnyBut.takeS (i := 6) (v := ?v23) rfl (by kernel_rfl) (Nat.le_of_eq (by kernel_rfl)) (by kernel_rfl) (by kernel_rfl) (fun _ _ _ h => h) (S0.out) (Or.inl ⟨by kernel_rfl, ?hy23⟩) ?r23
      case hy23 =>
        intro w hSw
        try dsimp only at hSw
        go_simp
        try with_reducible rfl
      try simp only [Act.put, List.getElem_toArray, List.getElem_cons_succ, List.getElem_cons_zero, List.setIfInBounds_toArray, List.set_cons_zero, List.set_cons_succ]
      refine AnyBut.takeS (i := 7) (v := ?v24) rfl (by kernel_rfl) (Nat.le_of_eq (by kernel_rfl)) (by kernel_rfl) (by kernel_rfl) (fun _ _ _ h => h) (S0.out) (Or.inl ⟨by kernel_rfl, ?hy24⟩) ?r24
      case hy24 =>
        intro w hSw
        try dsimp only at hSw
        go_simp
        try with_reducible rfl
      try simp only [Act.put, List.getElem_toArray, List.getElem_cons_succ, List.getElem_cons_zero, List.setIfInBounds_toArray, List.set_cons_zero, List.set_cons_succ]
      refine AnyBut.takeS (i := 8) (v := ?v25) rfl (by kernel_rfl) (Nat.le_of_eq (by kernel_rfl)) (by kernel_rfl) (by kernel_rfl) (fun _ _ _ h => h) (S0.out) (Or.inl ⟨by kernel_rfl, ?hy25⟩) ?r25
      case hy25 =>
        intro w hSw
        try dsimp only at hSw
        go_simp
        try with_reducible rfl
      try simp only [Act.put, List.getElem_toArray, List.getElem_cons_succ, List.getElem_cons_zero, List.setIfInBounds_toArray, List.set_cons_zero, List.set_cons_succ]
      refine AnyBut.takeS (i := 9) (v := ?v26) rfl (by kernel_rfl) (Nat.le_of_eq (by kernel_rfl)) (by kernel_rfl) (by kernel_rfl) (fun _ _ _ h => h) (S0.out) (Or.inl ⟨by kernel_rfl, ?hy26⟩) ?r26
      case hy26 =>
        intro w hSw
        try dsimp only at hSw
        go_simp
        try with_reducible rfl
      try simp only [Act.put, List.getElem_toArray, List.getElem_cons_succ, List.getElem_cons_zero, List.setIfInBounds_toArray, List.set_cons_zero, List.set_cons_succ]
      refine AnyBut.takeS (i := 10) (v := ?v27) rfl (by kernel_rfl) (Nat.le_of_eq (by kernel_rfl)) (by kernel_rfl) (by kernel_rfl) (fun _ _ _ h => h) (S0.out) (Or.inl ⟨by kernel_rfl, ?hy27⟩) ?r27
      case hy27 =>
        intro w hSw
        try dsimp only at hSw
        go_simp
        try with_reducible rfl
      try simp only [Act.put, List.getElem_toArray, List.getElem_cons_succ, List.getElem_cons_zero, List.setIfInBounds_toArray, List.set_cons_zero, List.set_cons_succ]
      refine AnyBut.takeS (i := 11) (v := ?v28) rfl (by kernel_rfl) (Nat.le_of_eq (by kernel_rfl)) (by kernel_rfl) (by kernel_rfl) (fun _ _ _ h => h) (S0.out) (Or.inl ⟨by kernel_rfl, ?hy28⟩) ?r28
      case hy28 =>
        intro w hSw
        try dsimp only at hSw
        go_simp
        try with_reducible rfl
      try simp only [Act.put, List.getElem_toArray, List.getElem_cons_succ, List.getElem_cons_zero, List.setIfInBounds_toArray, List.set_cons_zero, List.set_cons_succ]
      refine AnyBut.done (by kernel_rfl) ?_
      rw [← HWD.out]
      go_upto_region 7 with fail
      obtain ⟨wt, hwt⟩ : ∃ w', w' = wd.setCell ⟨b, 1, none⟩ (.int .i64 (s : Int)) := ⟨_, rfl⟩
      rw [← hwt]
      have hk2 : Kept (fun k => k = b) wd wt := by rw [hwt]; exact (Kept.refl (fun k => k = b) wd).setCell (p := ⟨b, 1, none⟩) (fun _ => rfl) _
      have HST := Lib.hid (show StB wt b (.slice ao Ln c) s 0 by rw [hwt]; exact HSD.out.setT s)
      have HK2 := Lib.hid ((show Kept (fun k => k = b) w wd from keptTo HKD.out).trans hk2)
      have HS2 := Lib.hid ((HSL.out.kept HKD.out (fun _ _ x => x)).kept hk2 (fun k e e2 => HBN.out (by rw [e, e2])))
      clear hwt hk2 d0 d1 d2 e1 e2
      obtain ⟨⟨d0, d1, d2⟩, e1, e2⟩ := HST.out.c
      have S7 : Hid ((fun w' => w'.cell? ⟨b, 0, none⟩ = some (.slice ao Ln c) ∧ w'.cell? ⟨b, 1, none⟩ = some (.int .i64 (s : Int))) wt.drew) := Lib.hid ⟨(Kept.refl (fun _ => False) wt).drew.cell d0 (fun x => x), (Kept.refl (fun _ => False) wt).drew.cell d1 (fun x => x)⟩
      have HS7 := Lib.hid (HS2.out.kept (Kept.refl (fun _ => False) wt).drew (fun _ _ x => x))
      refine AnyBut.start (S := fun w' => w'.cell? ⟨b, 0, none⟩ = some (.slice ao Ln c) ∧ w'.cell? ⟨b, 1, none⟩ = some (.int .i64 (s : Int))) (k := 17) (by kernel_rfl) ?_
      refine AnyBut.take (i := 0) (v := ?v1) rfl (by kernel_rfl) (by kernel_rfl) (by kernel_rfl) (by kernel_rfl) (fun _ _ _ h => h) (S7.out) (Or.inl ⟨by kernel_rfl, ?hy1⟩) ?r1
      case hy1 =>
        intro w hSw
        try dsimp only at hSw
        go_simp
        try with_reducible rfl
      try simp only [Act.put, List.getElem_toArray, List.getElem_cons_zero, List.setIfInBounds_toArray, List.set_cons_zero, List.set_cons_succ]
      refine AnyBut.take (i := 1) (v := ?v2) rfl (by kernel_rfl) (by kernel_rfl) (by kernel_rfl) (by kernel_rfl) (fun _ _ _ h => h) (S7.out) (Or.inl ⟨by kernel_rfl, ?hy2⟩) ?r2
      case hy2 =>
        intro w hSw
        try dsimp only at hSw
        go_simp
        try with_reducible rfl
      try simp only [Act.put, List.getElem_toArray, List.getElem_cons_succ, List.getElem_cons_zero, List.setIfInBounds_toArray, List.set_cons_zero, List.set_cons_succ]
      refine AnyBut.take (i := 2) (v := ?v3) rfl (by kernel_rfl) (by kernel_rfl) (by kernel_rfl) (by kernel_rfl) (fun _ _ _ h => h) (S7.out) (Or.inl ⟨by kernel_rfl, ?hy3⟩) ?r3
      case hy3 =>
        intro w hSw
        try dsimp only at hSw
        go_simp
        try with_reducible rfl
      try simp only [Act.put, List.getElem_toArray, List.getElem_cons_succ, List.getElem_cons_zero, List.setIfInBounds_toArray, List.set_cons_zero, List.set_cons_succ]
      refine AnyBut.take (i := 3) (v := ?v4) rfl (by kernel_rfl) (by kernel_rfl) (by kernel_rfl) (by kernel_rfl) (fun _ _ _ h => h) (S7.out) (Or.inl ⟨by kernel_rfl, ?hy4⟩) ?r4
      case hy4 =>
        intro w hSw
        try dsimp only at hSw
        go_simp
        try with_reducible rfl
      try simp only [Act.put, List.getElem_toArray, List.getElem_cons_succ, List.getElem_cons_zero, List.setIfInBounds_toArray, List.set_cons_zero, List.set_cons_succ]
      refine AnyBut.take (i := 4) (v := ?v5) rfl (by kernel_rfl) (by kernel_rfl) (by kernel_rfl) (by kernel_rfl) (fun _ _ _ h => h) (S7.out) (Or.inl ⟨by kernel_rfl, ?hy5⟩) ?r5
      case hy5 =>
        intro w hSw
        try dsimp only at hSw
        go_simp
        try with_reducible rfl
      try simp only [Act.put, List.getElem_toArray, List.getElem_cons_succ, List.getElem_cons_zero, List.setIfInBounds_toArray, List.set_cons_zero, List.set_cons_succ]
      refine AnyBut.take (i := 5) (v := ?v6) rfl (by kernel_rfl) (by kernel_rfl) (by kernel_rfl) (by kernel_rfl) (fun _ _ _ h => h) (S7.out) (Or.inl ⟨by kernel_rfl, ?hy6⟩) ?r6
      case hy6 =>
        intro w hSw
        try dsimp only at hSw
        go_simp
        try with_reducible rfl
      try simp only [Act.put, List.getElem_toArray, List.getElem_cons_succ, List.getElem_cons_zero, List.setIfInBounds_toArray, List.set_cons_zero, List.set_cons_succ]
      refine AnyBut.take (i := 6) (v := ?v7) rfl (by kernel_rfl) (by kernel_rfl) (by kernel_rfl) (by kernel_rfl) (fun _ _ _ h => h) (S7.out) (Or.inl ⟨by kernel_rfl, ?hy7⟩) ?r7
      case hy7 =>
        intro w hSw
        try dsimp only at hSw
        go_simp
        try with_reducible rfl
      try simp only [Act.put, List.getElem_toArray, List.getElem_cons_succ, List.getElem_cons_zero, List.setIfInBounds_toArray, List.set_cons_zero, List.set_cons_succ]
      refine AnyBut.take (i := 7) (v := ?v8) rfl (by kernel_rfl) (by kernel_rfl) (by kernel_rfl) (by kernel_rfl) (fun _ _ _ h => h) (S7.out) (Or.inl ⟨by kernel_rfl, ?hy8⟩) ?r8
      case hy8 =>
        intro w hSw
        try dsimp only at hSw
        go_simp
        try with_reducible rfl
      try simp only [Act.put, List.getElem_toArray, List.getElem_cons_succ, List.getElem_cons_zero, List.setIfInBounds_toArray, List.set_cons_zero, List.set_cons_succ]
      refine AnyBut.take (i := 8) (v := ?v9) rfl (by kernel_rfl) (by kernel_rfl) (by kernel_rfl) (by kernel_rfl) (fun _ _ _ h => h) (S7.out) (Or.inl ⟨by kernel_rfl, ?hy9⟩) ?r9
      case hy9 =>
        intro w hSw
        try dsimp only at hSw
        go_simp
        try with_reducible rfl
      try simp only [Act.put, List.getElem_toArray, List.getElem_cons_succ, List.getElem_cons_zero, List.setIfInBounds_toArray, List.set_cons_zero, List.set_cons_succ]
      refine AnyBut.take (i := 9) (v := ?v10) rfl (by kernel_rfl) (by kernel_rfl) (by kernel_rfl) (by kernel_rfl) (fun _ _ _ h => h) (S7.out) (Or.inl ⟨by kernel_rfl, ?hy10⟩) ?r10
      case hy10 =>
        intro w hSw
        try dsimp only at hSw
        go_simp
        try with_reducible rfl
      try simp only [Act.put, List.getElem_toArray, List.getElem_cons_succ, List.getElem_cons_zero, List.setIfInBounds_toArray, List.set_cons_zero, List.set_cons_succ]
      refine AnyBut.take (i := 10) (v := ?v11) rfl (by kernel_rfl) (by kernel_rfl) (by kernel_rfl) (by kernel_rfl) (fun _ _ _ h => h) (S7.out) (Or.inl ⟨by kernel_rfl, ?hy11⟩) ?r11
      case hy11 =>
        intro w hSw
        try dsimp only at hSw
        go_simp
        try with_reducible rfl
      try simp only [Act.put, List.getElem_toArray, List.getElem_cons_succ, List.getElem_cons_zero, List.setIfInBounds_toArray, List.set_cons_zero, List.set_cons_succ]
      refine AnyBut.take (i := 11) (v := ?v12) rfl (by kernel_rfl) (by kernel_rfl) (by kernel_rfl) (by kernel_rfl) (fun _ _ _ h => h) (S7.out) (Or.inl ⟨by kernel_rfl, ?hy12⟩) ?r12
      case hy12 =>
        intro w hSw
        try dsimp only at hSw
        go_simp
        try with_reducible rfl
      try simp only [Act.put, List.getElem_toArray, List.getElem_cons_succ, List.getElem_cons_zero, List.setIfInBounds_toArray, List.set_cons_zero, List.set_cons_succ]
      refine AnyBut.take (i := 12) (v := ?v13) rfl (by kernel_rfl) (by kernel_rfl) (by kernel_rfl) (by kernel_rfl) (fun _ _ _ h => h) (S7.out) (Or.inl ⟨by kernel_rfl, ?hy13⟩) ?r13
      case hy13 =>
        intro w hSw
        try dsimp only at hSw
        go_simp
        try with_reducible rfl
      try simp only [Act.put, List.getElem_toArray, List.getElem_cons_succ, List.getElem_cons_zero, List.setIfInBounds_toArray, List.set_cons_zero, List.set_cons_succ]
      refine AnyBut.take (i := 13) (v := ?v14) rfl (by kernel_rfl) (by kernel_rfl) (by kernel_rfl) (by kernel_rfl) (fun _ _ _ h => h) (S7.out) (Or.inl ⟨by kernel_rfl, ?hy14⟩) ?r14
      case hy14 =>
        intro w hSw
        try dsimp only at hSw
        go_simp
        try with_reducible rfl
      try simp only [Act.put, List.getElem_toArray, List.getElem_cons_succ, List.getElem_cons_zero, List.setIfInBounds_toArray, List.set_cons_zero, List.set_cons_succ]
      refine AnyBut.take (i := 14) (v := ?v15) rfl (by kernel_rfl) (by kernel_rfl) (by kernel_rfl) (by kernel_rfl) (fun _ _ _ h => h) (S7.out) (Or.inl ⟨by kernel_rfl, ?hy15⟩) ?r15
      case hy15 =>
        intro w hSw
        try dsimp only at hSw
        go_simp
        try with_reducible rfl
      try simp only [Act.put, List.getElem_toArray, List.getElem_cons_succ, List.getElem_cons_zero, List.setIfInBounds_toArray, List.set_cons_zero, List.set_cons_succ]
      refine AnyBut.one (i := 15) (by kernel_rfl) rfl (fun K hK => ?_)
      go_simp
      go_wp2_with fail
      refine (HNU.out _ HS7.out).mono ?_
      rintro e w' ⟨rfl, rfl⟩
      go_wp2
      refine hK.out _ _ (S7.out) ?_
      clear hK K
      try simp only [Act.put, List.getElem_toArray, List.getElem_cons_succ, List.getElem_cons_zero, List.setIfInBounds_toArray, List.set_cons_zero, List.set_cons_succ]
      refine AnyBut.take (i := 16) (v := ?v16) rfl (by kernel_rfl) (by kernel_rfl) (by kernel_rfl) (by kernel_rfl) (fun _ _ _ h => h) (S7.out) (Or.inl ⟨by kernel_rfl, ?hy16⟩) ?r16
      case hy16 =>
        intro w hSw
        try dsimp only at hSw
        go_simp
        try with_reducible rfl
      try simp only [Act.put, List.getElem_toArray, List.getElem_cons_succ, List.getElem_cons_zero, List.setIfInBounds_toArray, List.set_cons_zero, List.set_cons_succ]
      refine AnyBut.last (by kernel_rfl) rfl (by kernel_rfl) (fun K hK => ?_)
      go_simp
      refine hK.out _ _ ?_
      clear hK K
      try simp only [Act.put, List.getElem_toArray, List.getElem_cons_succ, List.getElem_cons_zero, List.setIfInBounds_toArray, List.set_cons_zero, List.set_cons_succ]
      go_wp2
      go_ret
      unfold StTo
      rw [HR.out]
      exact ⟨rfl, HST.out.same (Kept.refl (fun _ => False) wt).drew (fun x => x), HK2.out.step (Kept.refl (fun _ => False) wt).drew (fun _ _ e => e.elim)⟩
  · have q0 : ((E : Int) != 0) = true := bneT (by omega)
    have HR := Lib.hid (show bitsR l t E n = (0, t, E) by unfold bitsR; rw [if_pos hE])
    clear h hv hvb hc ht hl hn hE
    go_enter Tryd.func77, Tryd.ntmps77
    go_wp2
    go_ret
    unfold StTo
    rw [HR.out]
    exact ⟨rfl, HS.out, Kept.refl _ _⟩
end Go.Proofs.YtjpnfadmblmjbaaDoor
/- package limnographref10: a small form that is read (written by tools/gen_XZ31.py). -/
namespace Go.Proofs.YtjpnfadmblmjbaaDoor
open Go.RowKit
attribute [local go_sem ↓] Go.wp_at_zero Go.wp_at_succ

set_option maxHeartbeats 4000000 in
set_option maxRecDepth 100000 in
theorem stSmall_any (b : Nat) (ao : Option Addr) (c : Nat) (l : List Bool) (t E : Nat) (w : World) (h : StB w b (.slice ao l.length c) t E) (hv : SlAt w (.slice ao l.length c) (ints l)) (hc : l.length ≤ c) (ht : t ≤ l.length) (hl : l.length ≤ 100000000) :
    Calls Tryd.prog 79 #[.pointer (some ⟨b, 0, none⟩)] w (StTo w b (.slice ao l.length c) .u64 (smallR l t E)) := by
  obtain ⟨⟨c0, c1, c2⟩, f1, f2⟩ := h.c
  have HS := Lib.hid h
  by_cases hE : E = 0
  · have hR0 : smallR l t E = ((gotSmall (l.drop t)).1, t + (gotSmall (l.drop t)).2.1, (gotSmall (l.drop t)).2.2) := by unfold smallR; rw [if_neg (fun e => e hE)]
    have hle := gotSmall_le (l.drop t)
    rw [List.length_drop] at hle
    obtain ⟨iI, hiI, hzI0, hzI1, hzI2⟩ := info_parts Tryd.infoInt
    obtain ⟨Ln, hLn⟩ : ∃ k, k = l.length := ⟨_, rfl⟩
    rw [← hLn] at c0 HS hv hle ⊢
    have hcut : ∀ w, _ := fun w => run_cutL (P := Tryd.prog) Tryd.underlying26 hiI hzI1 ao Ln c t (by omega) w
    have hcutA : ∀ w, _ := fun w => run_cutLAt (P := Tryd.prog) Tryd.underlying26 hiI hzI1 ao Ln c t (by omega) w
    have hsl := hv.cutL (lo := t) (by omega) (by omega)
    obtain ⟨ax, hax⟩ : ∃ a, a = (if c = t then ao else ao.map (·.add t)) := ⟨_, rfl⟩
    obtain ⟨cx, hcx⟩ : ∃ a, a = c - t := ⟨_, rfl⟩
    obtain ⟨nx, hnx⟩ : ∃ a, a = Ln - t := ⟨_, rfl⟩
    rw [← hax, ← hcx, ← hnx] at hsl hcut hcutA
    have hsl' : SlAt w (.slice ax nx cx) (ints (l.drop t)) := by
      have e : ints (l.drop t) = (ints l).drop t := by unfold ints; rw [List.map_drop]
      rw [e]; exact hsl
    have HGS := Lib.hid fun w' (k : Kept (fun _ => False) w w') => refGetSmall_any (.slice ax nx cx) (l.drop t) w' (hsl'.kept k (fun _ _ x => x)) (fun a n c' e => by injection e with e1 e2 e3; omega) (by rw [List.length_drop]; omega)
    obtain ⟨V, hV⟩ : ∃ v, v = (gotSmall (l.drop t)).1 := ⟨_, rfl⟩
    obtain ⟨Nn, hN⟩ : ∃ v, v = (gotSmall (l.drop t)).2.1 := ⟨_, rfl⟩
    obtain ⟨EE, hEE⟩ : ∃ v, v = (gotSmall (l.drop t)).2.2 := ⟨_, rfl⟩
    rw [← hV, ← hN, ← hEE] at HGS hR0
    rw [← hN] at hle
    obtain ⟨s, hs2⟩ : ∃ s, s = t + Nn := ⟨_, rfl⟩
    rw [← hs2] at hR0
    have w2 : IntKind.i64.wrap ((t : Int) + (Nn : Int)) = (s : Int) := by rw [IntWalk.i64_in _ ⟨by omega, by omega⟩]; omega
    have HR := Lib.hid hR0
    have HLT := Lib.hid (show b < w.heap.size from (Array.getElem?_eq_some_iff.1 h).1)
    subst hE
    clear h hv hc ht hl hle hLn hsl hsl' hax hcx hnx hV hN hEE hs2 hzI0 hzI1 hzI2 hiI hR0
    go_enter Tryd.func79, Tryd.ntmps79
    go_upto_region 3 with fail
    go_cut [3] (fun s3 wc => ∃ q, s3 = .pointer (some ⟨q, 0, none⟩) ∧ Got3 wc q (V : Int) (Nn : Int) (EE : Int) ∧ Kept (fun _ => False) w wc ∧ b < q)
    case first =>
      obtain ⟨wd, hwd⟩ : ∃ w', w' = w.drew := ⟨_, rfl⟩
      have HKD := Lib.hid (show Kept (fun _ => False) w wd by rw [hwd]; exact (Kept.refl _ w).drew)
      have S0 : Hid ((fun w' => w'.cell? ⟨b, 0, none⟩ = some (.slice ao Ln c) ∧ w'.cell? ⟨b, 1, none⟩ = some (.int .i64 (t : Int))) wd) := Lib.hid ⟨HKD.out.cell c0 (fun x => x), HKD.out.cell c1 (fun x => x)⟩
      have HCC := Lib.hid (And.intro c0 c1)
      have S00 : Hid ((fun w' => w'.cell? ⟨b, 0, none⟩ = some (.slice ao Ln c) ∧ w'.cell? ⟨b, 1, none⟩ = some (.int .i64 (t : Int))) w.drew) := Lib.hid (by rw [← hwd]; exact S0.out)
      clear c0 c1 c2 f1 f2
      refine AnyBut.start (S := fun w' => w'.cell? ⟨b, 0, none⟩ = some (.slice ao Ln c) ∧ w'.cell? ⟨b, 1, none⟩ = some (.int .i64 (t : Int))) (k := 12) (by kernel_rfl) ?_
      refine AnyBut.takeS (i := 0) (v := ?v1) rfl (by kernel_rfl) (Nat.le_of_eq (by kernel_rfl)) (by kernel_rfl) (by kernel_rfl) (fun _ _ _ h => h) (S00.out) (Or.inl ⟨by kernel_rfl, ?hy1⟩) ?r1
      case hy1 =>
        intro w hSw
        try dsimp only at hSw
        go_simp
        try with_reducible rfl
      try simp only [Act.put, List.getElem_toArray, List.getElem_cons_zero, List.setIfInBounds_toArray, List.set_cons_zero, List.set_cons_succ]
      refine AnyBut.takeS (i := 1) (v := ?v2) rfl (by kernel_rfl) (Nat.le_of_eq (by kernel_rfl)) (by kernel_rfl) (by kernel_rfl) (fun _ _ _ h => h) (S00.out) (Or.inl ⟨by kernel_rfl, ?hy2⟩) ?r2
      case hy2 =>
        intro w hSw
        try dsimp only at hSw
        go_simp
        try with_reducible rfl
      try simp only [Act.put, List.getElem_toArray, List.getElem_cons_succ, List.getElem_cons_zero, List.setIfInBounds_toArray, List.set_cons_zero, List.set_cons_succ]
      refine AnyBut.takeS (i := 2) (v := ?v3) rfl (by kernel_rfl) (Nat.le_of_eq (by kernel_rfl)) (by kernel_rfl) (by kernel_rfl) (fun _ _ _ h => h) (S00.out) (Or.inl ⟨by kernel_rfl, ?hy3⟩) ?r3
      case hy3 =>
        intro w hSw
        try dsimp only at hSw
        go_simp
        try with_reducible rfl
      try simp only [Act.put, List.getElem_toArray, List.getElem_cons_succ, List.getElem_cons_zero, List.setIfInBounds_toArray, List.set_cons_zero, List.set_cons_succ]
      refine AnyBut.takeS (i := 3) (v := ?v4) rfl (by kernel_rfl) (Nat.le_of_eq (by kernel_rfl)) (by kernel_rfl) (by kernel_rfl) (fun _ _ _ h => h) (S00.out) (Or.inl ⟨by kernel_rfl, ?hy4⟩) ?r4
      case hy4 =>
        intro w hSw
        try dsimp only at hSw
        go_simp
        try with_reducible rfl
      try simp only [Act.put, List.getElem_toArray, List.getElem_cons_succ, List.getElem_cons_zero, List.setIfInBounds_toArray, List.set_cons_zero, List.set_cons_succ]
      refine AnyBut.takeS (i := 4) (v := ?v5) rfl (by kernel_rfl) (Nat.le_of_eq (by kernel_rfl)) (by kernel_rfl) (by kernel_rfl) (fun _ _ _ h => h) (S00.out) (Or.inl ⟨by kernel_rfl, ?hy5⟩) ?r5
      case hy5 =>
        intro w hSw
        try dsimp only at hSw
        go_simp
        try with_reducible rfl
      try simp only [Act.put, List.getElem_toArray, List.getElem_cons_succ, List.getElem_cons_zero, List.setIfInBounds_toArray, List.set_cons_zero, List.set_cons_succ]
      refine AnyBut.takeS (i := 5) (v := ?v6) rfl (by kernel_rfl) (Nat.le_of_eq (by kernel_rfl)) (by kernel_rfl) (by kernel_rfl) (fun _ _ _ h => h) (S00.out) (Or.inl ⟨by kernel_rfl, ?hy6⟩) ?r6
      case hy6 =>
        intro w hSw
        try dsimp only at hSw
        go_simp
        try with_reducible rfl
      try simp only [Act.put, List.getElem_toArray, List.getElem_cons_succ, List.getElem_cons_zero, List.setIfInBounds_toArray, List.set_cons_zero, List.set_cons_succ]
      refine AnyBut.takeS (i := 6) (v := ?v7) rfl (by kernel_rfl) (Nat.le_of_eq (by kernel_rfl)) (by kernel_rfl) (by kernel_rfl) (fun _ _ _ h => h) (S00.out) (Or.inl ⟨by kernel_rfl, ?hy7⟩) ?r7
      case hy7 =>
        intro w hSw
        try dsimp only at hSw
        go_simp
        try with_reducible rfl
      try simp only [Act.put, List.getElem_toArray, List.getElem_cons_succ, List.getElem_cons_zero, List.setIfInBounds_toArray, List.set_cons_zero, List.set_cons_succ]
      refine AnyBut.takeS (i := 7) (v := ?v8) rfl (by kernel_rfl) (Nat.le_of_eq (by kernel_rfl)) (by kernel_rfl) (by kernel_rfl) (fun _ _ _ h => h) (S00.out) (Or.inl ⟨by kernel_rfl, ?hy8⟩) ?r8
      case hy8 =>
        intro w hSw
        try dsimp only at hSw
        go_simp
        try with_reducible rfl
      try simp only [Act.put, List.getElem_toArray, List.getElem_cons_succ, List.getElem_cons_zero, List.setIfInBounds_toArray, List.set_cons_zero, List.set_cons_succ]
      refine AnyBut.takeS (i := 8) (v := ?v9) rfl (by kernel_rfl) (Nat.le_of_eq (by kernel_rfl)) (by kernel_rfl) (by kernel_rfl) (fun _ _ _ h => h) (S00.out) (Or.inl ⟨by kernel_rfl, ?hy9⟩) ?r9
      case hy9 =>
        intro w hSw
        try dsimp only at hSw
        go_simp
        try with_reducible rfl
      try simp only [Act.put, List.getElem_toArray, List.getElem_cons_succ, List.getElem_cons_zero, List.setIfInBounds_toArray, List.set_cons_zero, List.set_cons_succ]
      refine AnyBut.two (i := 9) (j := 10) (by kernel_rfl) rfl rfl (fun K hK => ?_) (fun K hK => ?_)
      · have kdd : Kept (fun _ => False) w w.drew := by rw [← hwd]; exact HKD.out
        go_simp
        go_wp2_with fail
        refine (HGS.out _ kdd).mono ?_
        rintro e w7 ⟨rfl, k7⟩
        have HK7 := Lib.hid (kdd.trans k7)
        clear k7
        have HSS7 : Hid ((fun w' => w'.cell? ⟨b, 0, none⟩ = some (.slice ao Ln c) ∧ w'.cell? ⟨b, 1, none⟩ = some (.int .i64 (t : Int))) w7) := Lib.hid ⟨HK7.out.cell HCC.out.1 (fun x => x), HK7.out.cell HCC.out.2 (fun x => x)⟩
        go_wp2
        refine hK.out _ _ (HSS7.out) ?_
        clear hK K
        try simp only [Act.put, List.getElem_toArray, List.getElem_cons_succ, List.getElem_cons_zero, List.setIfInBounds_toArray, List.set_cons_zero, List.set_cons_succ]
        refine AnyBut.one (i := 10) (by kernel_rfl) rfl (fun K hK => ?_)
        obtain ⟨w8, hw8⟩ : ∃ w', w' = w7.alloc (.cells #[.int .u64 0, .int .i64 0, .int .i64 0] 44) := ⟨_, rfl⟩
        have HQ8 := Lib.hid (show Got3 w8 w7.heap.size 0 0 0 by rw [hw8]; exact heap_alloc_new _ _)
        have HK8 := Lib.hid (show Kept (fun _ => False) w w8 by rw [hw8]; exact HK7.out.alloc _)
        have HBQ := Lib.hid (show b < w7.heap.size from Nat.lt_of_lt_of_le HLT.out HK7.out.size)
        obtain ⟨q, hq⟩ : ∃ q, q = w7.heap.size := ⟨_, rfl⟩
        rw [← hq] at HQ8 HBQ
        have HQW := Lib.hid (show w.heap.size ≤ q by rw [hq]; exact HK7.out.size)
        have HSS8 : Hid ((fun w' => w'.cell? ⟨b, 0, none⟩ = some (.slice ao Ln c) ∧ w'.cell? ⟨b, 1, none⟩ = some (.int .i64 (t : Int))) w8) := Lib.hid ⟨HK8.out.cell HCC.out.1 (fun x => x), HK8.out.cell HCC.out.2 (fun x => x)⟩
        have HW8 := Lib.hid hw8
        clear hw8
        go_simp
        rw [← HW8.out, ← hq]
        clear hq
        refine hK.out _ _ (HSS8.out) ?_
        clear hK K
        try simp only [Act.put, List.getElem_toArray, List.getElem_cons_succ, List.getElem_cons_zero, List.setIfInBounds_toArray, List.set_cons_zero, List.set_cons_succ]
        refine AnyBut.one (i := 11) (by kernel_rfl) rfl (fun K hK => ?_)
        have HQ9 := Lib.hid (HQ8.out.set (V : Int) (Nn : Int) (EE : Int))
        have HK9 := Lib.hid (show Kept (fun _ => False) w (((w8.setCell ⟨q, 0, none⟩ (.int .u64 (V : Int))).setCell ⟨q, 1, none⟩ (.int .i64 (Nn : Int))).setCell ⟨q, 2, none⟩ (.int .i64 (EE : Int))) from three_kept HK8.out HQW.out)
        have HSS9 : Hid ((fun w' => w'.cell? ⟨b, 0, none⟩ = some (.slice ao Ln c) ∧ w'.cell? ⟨b, 1, none⟩ = some (.int .i64 (t : Int))) (((w8.setCell ⟨q, 0, none⟩ (.int .u64 (V : Int))).setCell ⟨q, 1, none⟩ (.int .i64 (Nn : Int))).setCell ⟨q, 2, none⟩ (.int .i64 (EE : Int)))) := Lib.hid ⟨HK9.out.cell HCC.out.1 (fun x => x), HK9.out.cell HCC.out.2 (fun x => x)⟩
        obtain ⟨⟨z0, z1, z2⟩, g0, g1, g2⟩ := HQ8.out.c
        go_simp
        refine hK.out _ _ (HSS9.out) ?_
        clear hK K
        try simp only [Act.put, List.getElem_toArray, List.getElem_cons_succ, List.getElem_cons_zero, List.setIfInBounds_toArray, List.set_cons_zero, List.set_cons_succ]
        refine AnyBut.done (by kernel_rfl) ?_
        go_wp2
        go_meet
        case rel => exact ⟨q, rfl, HQ9.out, HK9.out, HBQ.out⟩
      · have kdd : Kept (fun _ => False) w w.drew := by rw [← hwd]; exact HKD.out
        obtain ⟨w8, hw8⟩ : ∃ w', w' = (w.alloc (.cells #[.int .u64 0, .int .i64 0, .int .i64 0] 44)).drew := ⟨_, rfl⟩
        have HQ8 := Lib.hid (show Got3 w8 w.heap.size 0 0 0 by rw [hw8]; exact (Kept.refl (fun _ => False) (w.alloc (.cells #[.int .u64 0, .int .i64 0, .int .i64 0] 44))).drew.same (heap_alloc_new w _) (fun x => x))
        have HK8 := Lib.hid (show Kept (fun _ => False) w w8 by rw [hw8]; exact ((Kept.refl _ w).alloc _).drew)
        have HBQ := Lib.hid (show b < w.heap.size from Nat.lt_of_lt_of_le HLT.out (Kept.refl (fun _ => False) w).size)
        obtain ⟨q, hq⟩ : ∃ q, q = w.heap.size := ⟨_, rfl⟩
        rw [← hq] at HQ8 HBQ
        have HQW := Lib.hid (show w.heap.size ≤ q by rw [hq]; exact (Kept.refl (fun _ => False) w).size)
        have HSS8 : Hid ((fun w' => w'.cell? ⟨b, 0, none⟩ = some (.slice ao Ln c) ∧ w'.cell? ⟨b, 1, none⟩ = some (.int .i64 (t : Int))) w8) := Lib.hid ⟨HK8.out.cell HCC.out.1 (fun x => x), HK8.out.cell HCC.out.2 (fun x => x)⟩
        have HW8 := Lib.hid hw8
        clear hw8
        go_simp
        rw [← HW8.out, ← hq]
        clear hq
        refine hK.out _ _ (HSS8.out) ?_
        clear hK K
        try simp only [Act.put, List.getElem_toArray, List.getElem_cons_succ, List.getElem_cons_zero, List.setIfInBounds_toArray, List.set_cons_zero, List.set_cons_succ]
        refine AnyBut.one (i := 9) (by kernel_rfl) rfl (fun K hK => ?_)
        go_simp
        go_wp2_with fail
        refine (HGS.out _ HK8.out).mono ?_
        rintro e w7 ⟨rfl, k7⟩
        have HK7 := Lib.hid (HK8.out.trans k7)
        have HQ7 := Lib.hid (show Got3 w7 q 0 0 0 from k7.same HQ8.out (fun x => x))
        clear k7
        have HSS7 : Hid ((fun w' => w'.cell? ⟨b, 0, none⟩ = some (.slice ao Ln c) ∧ w'.cell? ⟨b, 1, none⟩ = some (.int .i64 (t : Int))) w7) := Lib.hid ⟨HK7.out.cell HCC.out.1 (fun x => x), HK7.out.cell HCC.out.2 (fun x => x)⟩
        go_wp2
        refine hK.out _ _ (HSS7.out) ?_
        clear hK K
        try simp only [Act.put, List.getElem_toArray, List.getElem_cons_succ, List.getElem_cons_zero, List.setIfInBounds_toArray, List.set_cons_zero, List.set_cons_succ]
        refine AnyBut.one (i := 11) (by kernel_rfl) rfl (fun K hK => ?_)
        have HQ9 := Lib.hid (HQ7.out.set (V : Int) (Nn : Int) (EE : Int))
        have HK9 := Lib.hid (show Kept (fun _ => False) w (((w7.setCell ⟨q, 0, none⟩ (.int .u64 (V : Int))).setCell ⟨q, 1, none⟩ (.int .i64 (Nn : Int))).setCell ⟨q, 2, none⟩ (.int .i64 (EE : Int))) from three_kept HK7.out HQW.out)
        have HSS9 : Hid ((fun w' => w'.cell? ⟨b, 0, none⟩ = some (.slice ao Ln c) ∧ w'.cell? ⟨b, 1, none⟩ = some (.int .i64 (t : Int))) (((w7.setCell ⟨q, 0, none⟩ (.int .u64 (V : Int))).setCell ⟨q, 1, none⟩ (.int .i64 (Nn : Int))).setCell ⟨q, 2, none⟩ (.int .i64 (EE : Int)))) := Lib.hid ⟨HK9.out.cell HCC.out.1 (fun x => x), HK9.out.cell HCC.out.2 (fun x => x)⟩
        obtain ⟨⟨z0, z1, z2⟩, g0, g1, g2⟩ := HQ7.out.c
        go_simp
        refine hK.out _ _ (HSS9.out) ?_
        clear hK K
        try simp only [Act.put, List.getElem_toArray, List.getElem_cons_succ, List.getElem_cons_zero, List.setIfInBounds_toArray, List.set_cons_zero, List.set_cons_succ]
        refine AnyBut.done (by kernel_rfl) ?_
        go_wp2
        go_meet
        case rel => exact ⟨q, rfl, HQ9.out, HK9.out, HBQ.out⟩
    case rest =>
      obtain ⟨q, rfl, hq, hk, hbq⟩ := hcut
      have HQ := Lib.hid hq
      have HK := Lib.hid hk
      have HSc := Lib.hid (HS.out.same hk (fun x => x))
      have HBQ := Lib.hid (show q ≠ b by omega)
      clear hq hk hbq c0 c1 c2 f1 f2
      obtain ⟨⟨z0, z1, z2⟩, _⟩ := HQ.out.c
      obtain ⟨⟨c0, c1, c2⟩, f1, f2⟩ := HSc.out.c
      go_upto_region 5 with fail
      obtain ⟨w5, hw5⟩ : ∃ w', w' = wc.setCell ⟨b, 2, none⟩ (.int .i64 (EE : Int)) := ⟨_, rfl⟩
      rw [← hw5]
      have k5 : Kept (fun k => k = b) wc w5 := by rw [hw5]; exact (Kept.refl (fun k => k = b) wc).setCell (p := ⟨b, 2, none⟩) (fun _ => rfl) _
      have HS5 := Lib.hid (show StB w5 b (.slice ao Ln c) t EE by rw [hw5]; exact HSc.out.setE EE)
      have HQ5 := Lib.hid (show Got3 w5 q (V : Int) (Nn : Int) (EE : Int) from k5.same HQ.out HBQ.out)
      have HK5 := Lib.hid ((show Kept (fun k => k = b) w wc from keptTo HK.out).trans k5)
      clear hw5 k5 z0 z1 z2 c0 c1 c2 f1 f2
      obtain ⟨w6, hw6⟩ : ∃ w', w' = w5.drew := ⟨_, rfl⟩
      have k6 : Kept (fun _ => False) w5 w6 := by rw [hw6]; exact (Kept.refl _ _).drew
      have HS6 := Lib.hid (HS5.out.same k6 (fun x => x))
      have HQ6 := Lib.hid (show Got3 w6 q (V : Int) (Nn : Int) (EE : Int) from k6.same HQ5.out (fun x => x))
      have HK6 := Lib.hid (HK5.out.step k6 (fun _ _ e => e.elim))
      have HW6 := Lib.hid hw6
      obtain ⟨⟨z0, z1, z2⟩, _⟩ := HQ6.out.c
      obtain ⟨⟨c0, c1, c2⟩, f1, f2⟩ := HS6.out.c
      rw [hw6] at c0 c1 c2 f1 f2 z0 z1 z2
      clear hw6 k6
      go_region_with (fail)
      all_goals
        clear c0 c1 c2 f1 f2 z0 z1 z2
        obtain ⟨w7, hw7⟩ : ∃ w', w' = (w5.setCell ⟨b, 1, none⟩ (.int .i64 (s : Int))).drew := ⟨_, rfl⟩
        rw [← hw7]
        have k7 : Kept (fun k => k = b) w5 w7 := by rw [hw7]; exact ((Kept.refl (fun k => k = b) w5).setCell (p := ⟨b, 1, none⟩) (fun _ => rfl) _).drew
        have HS7 := Lib.hid (show StB w7 b (.slice ao Ln c) s EE by rw [hw7]; exact (HS5.out.setT s).same (Kept.refl (fun _ => False) _).drew (fun x => x))
        have HK7 := Lib.hid (HK5.out.trans k7)
        obtain ⟨⟨z0, z1, z2⟩, g0, g1, g2⟩ := Got3.c (show Got3 w7 q (V : Int) (Nn : Int) (EE : Int) from k7.same HQ5.out HBQ.out)
        clear hw7 k7
        go_wp2
        go_ret
        unfold StTo
        rw [HR.out]
        exact ⟨rfl, HS7.out, HK7.out⟩
  · have q0 : ((E : Int) != 0) = true := bneT (by omega)
    have HR := Lib.hid (show smallR l t E = (0, t, E) by unfold smallR; rw [if_pos hE])
    clear h hv hc ht hl hE
    go_enter Tryd.func79, Tryd.ntmps79
    go_wp2
    go_ret
    unfold StTo
    rw [HR.out]
    exact ⟨rfl, HS.out, Kept.refl _ _⟩
end Go.Proofs.YtjpnfadmblmjbaaDoor
