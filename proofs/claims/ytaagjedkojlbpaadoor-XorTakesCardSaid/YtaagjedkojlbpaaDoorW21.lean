/- package limnographref07: Get. -/
import Derived.Test.YtaagjedkojlbpaaDoorW20
import Derived.Test.YtaagjedkojlbpaaDoorW19
namespace Go.Proofs.YtaagjedkojlbpaaDoor
open Go.RowKit
attribute [local go_sem ↓] Go.wp_at_zero Go.wp_at_succ

theorem g6_info : (Tryd.prog.info? 69).map (·.size) = some 6 := by kernel_rfl
/-- A result of the document's Get in its block. -/
def GBox (w : World) (q : Nat) (V N : Int) (v : Value) (F S E : Int) : Prop := w.heap[q]? = some (.cells #[.int .u64 V, .int .i64 N, v, .int .i64 F, .int .i64 S, .int .i64 E] 69 (0, 0))
theorem GBox.c {w : World} {q : Nat} {V N : Int} {v : Value} {F S E : Int} (b : GBox w q V N v F S E) : w.cell? ⟨q, 0, none⟩ = some (.int .u64 V) ∧ w.cell? ⟨q, 1, none⟩ = some (.int .i64 N) ∧ w.cell? ⟨q, 2, none⟩ = some v ∧ w.cell? ⟨q, 3, none⟩ = some (.int .i64 F) ∧ w.cell? ⟨q, 4, none⟩ = some (.int .i64 S) ∧ w.cell? ⟨q, 5, none⟩ = some (.int .i64 E) := by
  have h := fun i => cell_of_row w q i _ _ _ b
  refine ⟨?_, ?_, ?_, ?_, ?_, ?_⟩ <;> (rw [h]; rfl)
theorem GBox.f {w : World} {q : Nat} {V N : Int} {v : Value} {F S E : Int} (b : GBox w q V N v F S E) (i : Nat) : w.frozen? ⟨q, i, none⟩ = false := by
  unfold GBox at b; simp [World.frozen?, b]
theorem GBox.same {T : Nat → Prop} {w w' : World} {q : Nat} {V N : Int} {v : Value} {F S E : Int} (b : GBox w q V N v F S E) (hk : Kept T w w') (hn : ¬ T q) : GBox w' q V N v F S E := hk.same b hn
def set6 (w : World) (q : Nat) (a b c d e f : Value) : World := (((((w.setCell ⟨q, 0, none⟩ a).setCell ⟨q, 1, none⟩ b).setCell ⟨q, 2, none⟩ c).setCell ⟨q, 3, none⟩ d).setCell ⟨q, 4, none⟩ e).setCell ⟨q, 5, none⟩ f
theorem set6_kept (w : World) (q : Nat) (a b c d e f : Value) : Kept (fun k => k = q) w (set6 w q a b c d e f) :=
  ((((((Kept.refl (fun k => k = q) w).setCell (p := ⟨q, 0, none⟩) (fun _ => rfl) a).setCell (p := ⟨q, 1, none⟩) (fun _ => rfl) b).setCell (p := ⟨q, 2, none⟩) (fun _ => rfl) c).setCell (p := ⟨q, 3, none⟩) (fun _ => rfl) d).setCell (p := ⟨q, 4, none⟩) (fun _ => rfl) e).setCell (p := ⟨q, 5, none⟩) (fun _ => rfl) f
theorem GBox.set {w : World} {q : Nat} {V N : Int} {v : Value} {F S E : Int} (b : GBox w q V N v F S E) (V' N' : Int) (v' : Value) (F' S' E' : Int) : GBox (set6 w q (.int .u64 V') (.int .i64 N') v' (.int .i64 F') (.int .i64 S') (.int .i64 E')) q V' N' v' F' S' E' := by
  unfold GBox set6 at *; simp [World.setCell, Array.getElem?_modify, b]
theorem g6_end {fn : Func} {p : Tmp} {a : Act} {P : Ending → World → Prop} {w : World} {q : Nat} {V N : Int} {v : Value} {F S E : Int} (hres : fn.results = #[.cell p 69]) (hp : a.tmps.getD p undef = .pointer (some ⟨q, 0, none⟩)) (hd : a.defers = [])
    (hg : GBox w q V N v F S E) (h : P (.returned (.agg #[.int .u64 V, .int .i64 N, v, .int .i64 F, .int .i64 S, .int .i64 E])) w) : bodyPost Tryd.prog fn P .ret a w :=
  bodyPost_ret (v := .agg #[.int .u64 V, .int .i64 N, v, .int .i64 F, .int .i64 S, .int .i64 E]) (results_cell_row hres _ _ q 69 _ (0, 0) _ hp hg Tryd.underlying69 rfl g6_info) hd h
theorem six_kept {w wi : World} {q : Nat} (k : Kept (fun _ => False) w wi) (hq : w.heap.size ≤ q) (a b c d e f : Value) : Kept (fun _ => False) w (set6 wi q a b c d e f) := k.step (set6_kept wi q a b c d e f) (fun i hi x => by omega)
theorem Mine.set6 {w wb wi : World} {E : TypeId} {v : Value} {xs : List Value} {q : Nat} (m : Mine wb wi E v xs) (k0 : Kept (fun _ => False) w wb) (hq : w.heap.size ≤ q) (hq2 : q < wb.heap.size) (a b c d e f : Value) : Mine w (set6 wi q a b c d e f) E v xs :=
  (m.down k0).keptS (set6_kept wi q a b c d e f) (fun k e x => by have := (ownsRow_lt m.own e).2; omega) (fun k x => by omega)
/-- What the document's Get answers. -/
def RGot (w : World) (l0 : List Nat) (V N E F S : Nat) (e : Ending) (w' : World) : Prop :=
  ∃ (sv' : Value) (V' N' F' S' : Nat), e = .returned (.agg #[.int .u64 (V' : Int), .int .i64 (N' : Int), sv', .int .i64 (F' : Int), .int .i64 (S' : Int), .int .i64 (E : Int)]) ∧
    (E = 0 → V' = V ∧ N' = N ∧ F' = F ∧ S' = S ∧ Mine w w' 28 sv' (xvals (l0 ++ [V]))) ∧ (E ≠ 0 → V' = 0 ∧ N' = 0 ∧ sv' = .slice none 0 0) ∧ Kept (fun _ => False) w w'
theorem RGot.err {w : World} {l0 : List Nat} {V N E F S V' N' F' S' : Nat} {e : Ending} {w' : World} (h : RGot w l0 V N E F S e w') (hE : E ≠ 0) : RGot w l0 V' N' E F' S' e w' := by
  obtain ⟨a, b, c, d, g, h1, _, h3, h4⟩ := h
  exact ⟨a, b, c, d, g, h1, fun h => absurd h hE, h3, h4⟩
set_option maxHeartbeats 4000000 in
set_option maxRecDepth 100000 in
theorem rget_zero (sv : Value) (l0 : List Nat) (f s : Nat) (lo : Option Addr) (lc : Nat) (l : List Bool) (w : World) (hs : SlAt w sv (xvals l0)) (hv : SlAt w (.slice lo l.length lc) (ints l)) (hcap : l.length ≤ lc) (hl0 : l0.length ≤ 1000000) (hl : l.length ≤ 100000000) (h0 : l0 = []) :
    Calls Tryd.prog 42 #[stV sv f s, .slice lo l.length lc] w (RGot w l0 (getZ l).1 (getZ l).2.1 (getZ l).2.2 f s) := by
  obtain ⟨ao, ca, rfl, hvr⟩ := hs.val
  clear hvr
  rw [xvals_length] at hs ⊢
  have k0 := ((Kept.refl (fun _ => False) w).alloc (.cells #[.slice ao l0.length ca, .int .i64 (f : Int), .int .i64 (s : Int)] 63)).alloc (.cells #[.int .u64 0, .int .i64 0, .slice none 0 0, .int .i64 0, .int .i64 0, .int .i64 0] 69)
  obtain ⟨wb, hwb⟩ : ∃ w', w' = (w.alloc (.cells #[.slice ao l0.length ca, .int .i64 (f : Int), .int .i64 (s : Int)] 63)).alloc (.cells #[.int .u64 0, .int .i64 0, .slice none 0 0, .int .i64 0, .int .i64 0, .int .i64 0] 69) := ⟨_, rfl⟩
  have kk := fun (w : World) o => (Kept.refl (fun _ => False) w).alloc o
  have b1 : StBox wb w.heap.size (.slice ao l0.length ca) f s := by
    rw [hwb]
    exact (show StBox (w.alloc (.cells #[.slice ao l0.length ca, .int .i64 (f : Int), .int .i64 (s : Int)] 63)) w.heap.size (.slice ao l0.length ca) f s from heap_alloc_new w _).same (kk _ _) (fun x => x)
  have b3 : GBox wb (w.heap.size + 1) 0 0 (.slice none 0 0) 0 0 0 := by
    rw [hwb]
    have := heap_alloc_new (w.alloc (.cells #[.slice ao l0.length ca, .int .i64 (f : Int), .int .i64 (s : Int)] 63)) (.cells #[.int .u64 0, .int .i64 0, .slice none 0 0, .int .i64 0, .int .i64 0, .int .i64 0] 69)
    rw [show (w.alloc (.cells #[.slice ao l0.length ca, .int .i64 (f : Int), .int .i64 (s : Int)] 63)).heap.size = w.heap.size + 1 by simp] at this
    exact this
  rw [← hwb] at k0
  obtain ⟨m, hm⟩ : ∃ m, m = l0.length := ⟨_, rfl⟩
  rw [← hm] at b1 hwb ⊢
  have HBX := Lib.hid fun w' (k : Kept (fun _ => False) wb w') => And.intro (b1.same k (fun x => x)) (b3.same k (fun x => x))
  have HQ := Lib.hid (show w.heap.size + 1 < wb.heap.size from (Array.getElem?_eq_some_iff.1 b3).1)
  have HK0 := Lib.hid k0
  have hsb := hs.kept k0 (fun _ _ x => x)
  have hvb := hv.kept k0 (fun _ _ x => x)
  have HW := Lib.hid hwb
  obtain ⟨d0, d1, d2⟩ := b1.c
  have HLX : Hid (∀ x, (xvals (l0 ++ [x])).length = m + 1) := Lib.hid fun x => by rw [hm]; simp
  have hrefl := Kept.refl (fun _ => False) wb
  have HRF := Lib.hid hrefl
  clear hwb kk b1 b3 hrefl
  have n0 : ((m : Int) == 0) = true := by rw [hm, h0]; rfl
  obtain ⟨n, hn⟩ : ∃ n, n = l.length := ⟨_, rfl⟩
  by_cases hlt : l.length < 64
  · have e : getZ l = (0, 0, 2) := by unfold getZ; rw [if_pos hlt]
    rw [e, ← hn]
    have q1 : (n : Int) < 64 := by omega
    have q1b : decide (n < 64) = true := decide_eq_true (by omega)
    obtain ⟨g0, g1, g2, g3, g4, g5⟩ := (HBX.out _ HRF.out).2.c
    have y0 := (HBX.out _ HRF.out).2.f 0
    have y1 := (HBX.out _ HRF.out).2.f 1
    have y2 := (HBX.out _ HRF.out).2.f 2
    have y3 := (HBX.out _ HRF.out).2.f 3
    have y4 := (HBX.out _ HRF.out).2.f 4
    have y5 := (HBX.out _ HRF.out).2.f 5
    unfold stV RGot
    clear hs hv hcap hl0 hl h0 k0 hm hsb hvb hlt e hn
    go_enter Tryd.func42, Tryd.ntmps42
    go_upto_region 2 with fail
    rw [← HW.out]
    go_wp2
    refine g6_end Tryd.results42 rfl rfl ((HBX.out _ HRF.out).2.set 0 0 (.slice none 0 0) 0 0 2) ?_
    exact ⟨_, 0, 0, 0, 0, rfl, fun h => absurd h (by decide), fun _ => ⟨rfl, rfl, rfl⟩, six_kept (HK0.out.trans HRF.out) (by have := HQ.out; omega) _ _ _ _ _ _⟩
  · have e : getZ l = (numB (l.take 64), 64, 0) := by unfold getZ; rw [if_neg hlt]
    rw [e]
    have q1 : ¬ (n : Int) < 64 := by omega
    have q1b : decide (n < 64) = false := decide_eq_false (by omega)
    have hct := hvb.takeH (k := 64) (by omega)
    have hit : (ints l).take 64 = ints (l.take 64) := by unfold ints; rw [List.map_take]
    rw [hit] at hct
    obtain ⟨iI, hiI, hzI0, hzI1, hzI2⟩ := info_parts Tryd.infoInt
    have s1 : ∀ w, (Instr.slice 26 (.slice lo n lc) none (some (.int .i64 64)) none).run Tryd.prog w = .ok (.slice lo 64 lc) w := fun w => run_cutH (P := Tryd.prog) Tryd.underlying26 hiI hzI1 lo n lc 64 (by omega) w
    have s2 : ∀ w, (Instr.sliceAt 26 (.slice lo n lc) none (some (.int .i64 64)) none).run Tryd.prog w = .ok (.slice lo 64 lc) w := fun w => run_cutHAt (P := Tryd.prog) Tryd.underlying26 hiI hzI1 lo n lc 64 (by omega) w
    have HNUM := Lib.hid fun w' (k : Kept (fun _ => False) wb w') => refNumber_any _ _ w' (hct.kept k (fun _ _ x => x)) (by rw [List.length_take]; omega)
    obtain ⟨V, hV⟩ : ∃ V, V = numB (l.take 64) := ⟨_, rfl⟩
    rw [← hV] at HNUM ⊢
    rw [← hn]
    have HWITH := Lib.hid fun w' (k : Kept (fun _ => False) wb w') => rwith_any _ l0 f s V f s w' (hsb.kept k (fun _ _ x => x)) hl0
    have HLX := Lib.hid (HLX.out V)
    have HNE : Hid ((64 : Nat) = 64) := Lib.hid rfl
    rw [← hm] at HWITH
    unfold stV winV at HWITH
    unfold stV RGot
    clear hs hv hcap hl0 hl h0 k0 hm hsb hvb hlt e hn hct hit hV hiI hzI0 hzI1 hzI2
    go_enter Tryd.func42, Tryd.ntmps42
    go_wp2_with fail
    rw [← HW.out]
    refine (HNUM.out _ HRF.out).mono ?_
    rintro e w' ⟨rfl, rfl⟩
    go_wp2_with fail
    refine (HWITH.out _ HRF.out).mono ?_
    rintro e w2 ⟨v2, rfl, hm⟩
    obtain ⟨av2, cv2, ev⟩ := hm.slice
    rw [HLX.out] at ev
    subst ev
    have HV2 := Lib.hid (hm.down HRF.out)
    clear hm
    obtain ⟨g0, g1, g2, g3, g4, g5⟩ := (HBX.out _ HV2.out.kept).2.c
    have y0 := (HBX.out _ HV2.out.kept).2.f 0
    have y1 := (HBX.out _ HV2.out.kept).2.f 1
    have y2 := (HBX.out _ HV2.out.kept).2.f 2
    have y3 := (HBX.out _ HV2.out.kept).2.f 3
    have y4 := (HBX.out _ HV2.out.kept).2.f 4
    have y5 := (HBX.out _ HV2.out.kept).2.f 5
    go_wp2
    refine g6_end Tryd.results42 rfl rfl ((HBX.out _ HV2.out.kept).2.set V 64 (.slice av2 (m + 1) cv2) f s 0) ?_
    exact ⟨_, V, 64, f, s, rfl, fun _ => ⟨rfl, by have := HNE.out; omega, rfl, rfl, HV2.out.set6 HK0.out (q := w.heap.size + 1) (by omega) HQ.out _ _ _ _ _ _⟩, fun h => absurd rfl h, six_kept (HK0.out.trans HV2.out.kept) (by have := HQ.out; omega) _ _ _ _ _ _⟩
end Go.Proofs.YtaagjedkojlbpaaDoor
