/- Layer 34: what the document's Open has in memory; what it reads, case by case. -/
import Derived.Test.YtkidbbmdlmnokaaTJ
import Derived.Test.YtkidbbmdlmnokaaT4
import Derived.Test.YtkidbbmdlmnokaaP9
namespace Go.Proofs.Ytkidbbmdlmnokaa
open Go.RowKit
attribute [local go_sem ↓] Go.wp_at_zero Go.wp_at_succ

theorem nx_fault {l : List Int} {t i : Nat} {a : ByteArray} (h : (txtR l t 0).2.2 ≠ 0) : (nxR l i t 0 a).2 = (txtR l t 0).2.2 := by
  unfold nxR nxtS
  rw [if_pos h]
theorem text_fault {l : List Int} {t : Nat} {e most : Int} (h : (countF l t e most).2.2 ≠ 0) : (textF l t e most).2.2 = (countF l t e most).2.2 := by
  unfold textF
  have : (nextF l (t + (countF l t e most).2.1) (countF l t e most).2.2 (countF l t e most).1).2.2 = (countF l t e most).2.2 := by
    unfold nextF
    rw [if_pos h]
  rw [this, if_pos h]
theorem count_err {l : List Int} {t n : Nat} {v e1 most : Int} (h : lookF l t = (v, n, e1)) (he : e1 ≠ 0) : (countF l t 0 most).2.2 = e1 := by
  unfold countF lookE
  rw [if_pos rfl, h, if_neg (by simp [he])]
theorem count_ko {l : List Int} {t n : Nat} {v most : Int} (h : lookF l t = (v, n, 0)) (he : most < v) : (countF l t 0 most).2.2 = 4 := by
  unfold countF lookE
  rw [if_pos rfl, h, if_pos ⟨rfl, .inr he⟩]
theorem count_ok {l : List Int} {t n : Nat} {v most : Int} (h : lookF l t = (v, n, 0)) (h0 : 0 ≤ v) (he : v ≤ most) : countF l t 0 most = (v, n, 0) := by
  unfold countF lookE
  rw [if_pos rfl, h, if_neg (by simp only; omega)]
theorem count_sticky {l : List Int} {t : Nat} {e most : Int} (h : e ≠ 0) : (countF l t e most).2.2 = e := by
  unfold countF lookE
  rw [if_neg h, if_neg (by simp [h])]
theorem nx_bad1 {l : List Int} {t i : Nat} {a : ByteArray} {e : Int} (h : (countF l t 0 400).2.2 = e) (he : e ≠ 0) : (nxR l i t 0 a).2 = e := by
  have h1 : (txtR l t 0).2.2 = e := by
    unfold txtR
    rw [h]
    have := count_sticky (l := l) (t := t + (countF l t 0 400).2.1) (most := 400) he
    rw [text_fault (by rw [this]; exact he), this]
  rw [nx_fault (by rw [h1]; exact he), h1]
theorem nx_e1 {l : List Int} {t i n : Nat} {a : ByteArray} {v e1 : Int} (h : lookF l t = (v, n, e1)) (he : e1 ≠ 0) : (nxR l i t 0 a).2 = e1 := nx_bad1 (count_err h he) he
theorem nx_v1 {l : List Int} {t i n : Nat} {a : ByteArray} {v : Int} (h : lookF l t = (v, n, 0)) (he : 400 < v) : (nxR l i t 0 a).2 = 4 := nx_bad1 (count_ko h he) (by decide)
section
variable {l : List Int} {t i n n2 : Nat} {a : ByteArray} {v v2 e2 : Int} (h : lookF l t = (v, n, 0)) (h0 : 0 ≤ v) (hv : v ≤ 400)
include h h0 hv
theorem txt_is : txtR l t 0 = textF l (t + n) 0 400 := by
  unfold txtR
  rw [count_ok h h0 hv]
theorem nx_bad2 {e : Int} (hc : (countF l (t + n) 0 400).2.2 = e) (he : e ≠ 0) : (nxR l i t 0 a).2 = e := by
  have h1 : (txtR l t 0).2.2 = e := by
    rw [txt_is h h0 hv, text_fault (by rw [hc]; exact he), hc]
  rw [nx_fault (by rw [h1]; exact he), h1]
theorem nx_e2 (h2 : lookF l (t + n) = (v2, n2, e2)) (he : e2 ≠ 0) : (nxR l i t 0 a).2 = e2 := nx_bad2 h h0 hv (count_err h2 he) he
theorem nx_v2 (h2 : lookF l (t + n) = (v2, n2, 0)) (he : 400 < v2) : (nxR l i t 0 a).2 = 4 := nx_bad2 h h0 hv (count_ko h2 he) (by decide)
theorem nx_short (h2 : lookF l (t + n) = (v2, n2, 0)) (h3 : 0 ≤ v2) (h4 : v2 ≤ 400) (hs : (l.length : Int) - ((t + n + n2 : Nat) : Int) < v2) : (nxR l i t 0 a).2 = 2 := by
  have h1 : (txtR l t 0).2.2 = 2 := by
    have hnx : nextF l (t + n + n2) 0 v2 = ([], 0, 2) := by
      unfold nextF
      rw [if_neg (by simp), if_neg (by omega), if_pos hs]
    rw [txt_is h h0 hv]
    unfold textF
    rw [count_ok h2 h3 h4]
    simp only
    rw [hnx, if_pos (by simp)]
  rw [nx_fault (by rw [h1]; decide), h1]
theorem nx_ok {m : Nat} (h2 : lookF l (t + n) = ((m : Int), n2, 0)) (h4 : m ≤ 400) (hs : t + n + n2 + m ≤ l.length) :
    nxR l i t 0 a = nxtS i a v.toNat (strOfNums ((l.drop (t + n + n2)).take m)) 0 ∧ (txtR l t 0).2.2 = 0 ∧ endR l t 0 = t + n + n2 + m := by
  have h1 : txtR l t 0 = ((l.drop (t + n + n2)).take m, n2 + m, 0) := by
    have hnx : nextF l (t + n + n2) 0 (m : Int) = ((l.drop (t + n + n2)).take m, m, 0) := by
      unfold nextF
      rw [if_neg (by simp), if_neg (by omega), if_neg (by omega), Int.toNat_natCast]
    rw [txt_is h h0 hv]
    unfold textF
    rw [count_ok h2 (by omega) (by omega)]
    simp only
    rw [hnx, if_neg (by simp)]
  refine ⟨?_, by rw [h1], ?_⟩
  · unfold nxR
    rw [h1, count_ok h h0 hv]
  · unfold endR
    rw [h1, count_ok h h0 hv]
    simp only; omega
end
/-- What GetNum told, in its block; the answer, in its own. -/
def GG (w : World) (g : Nat) (r : Int × Nat × Int) : Prop := w.heap[g]? = some (.cells #[.int .u64 r.1, .int .i64 r.2.1, .int .i64 r.2.2] 90 (0, 0))
def RB34 (w : World) (q : Nat) (v : Value) (E : Int) : Prop := w.heap[q]? = some (.cells #[v, .int .i64 E] 59 (0, 0))
theorem GG.c {w : World} {g : Nat} {r : Int × Nat × Int} (b : GG w g r) : w.cell? ⟨g, 0, none⟩ = some (.int .u64 r.1) ∧ w.cell? ⟨g, 1, none⟩ = some (.int .i64 r.2.1) ∧ w.cell? ⟨g, 2, none⟩ = some (.int .i64 r.2.2) :=
  ⟨(cell_of_row _ _ 0 _ _ _ b).trans rfl, (cell_of_row _ _ 1 _ _ _ b).trans rfl, (cell_of_row _ _ 2 _ _ _ b).trans rfl⟩
theorem GG.fz {w : World} {g : Nat} {r : Int × Nat × Int} (b : GG w g r) (j : Nat) : w.frozen? ⟨g, j, none⟩ = false := by unfold GG at b; simp [World.frozen?, b]
theorem RB34.c {w : World} {q : Nat} {v : Value} {E : Int} (b : RB34 w q v E) : w.cell? ⟨q, 0, none⟩ = some v ∧ w.cell? ⟨q, 1, none⟩ = some (.int .i64 E) :=
  ⟨(cell_of_row _ _ 0 _ _ _ b).trans rfl, (cell_of_row _ _ 1 _ _ _ b).trans rfl⟩
theorem RB34.fz {w : World} {q : Nat} {v : Value} {E : Int} (b : RB34 w q v E) (j : Nat) : w.frozen? ⟨q, j, none⟩ = false := by unfold RB34 at b; simp [World.frozen?, b]
theorem got34_info : (Try.prog.info? 59).map (·.size) = some 2 := by kernel_rfl
theorem got34_end {fn : Func} {p : Tmp} {a : Act} {P : Ending → World → Prop} {w : World} {q : Nat} {v : Value} {E : Int} (hres : fn.results = #[.cell p 59]) (hp : a.tmps.getD p undef = .pointer (some ⟨q, 0, none⟩)) (hd : a.defers = [])
    (hg : RB34 w q v E) (h : P (.returned (.agg #[v, .int .i64 E])) w) : bodyPost Try.prog fn P .ret a w :=
  bodyPost_ret (v := .agg #[v, .int .i64 E]) (results_cell_row hres _ _ q 59 _ (0, 0) _ hp hg Try.underlying59 rfl got34_info) hd h
structure DS (W w : World) (g q : Nat) (r : Int × Nat × Int) (acc : List ByteArray) (ao : Option Addr) (cp : Nat) : Prop where
  gg : GG w g r
  rb : RB34 w q (.slice none 0 0) 0
  own : Mine W w 9 (.slice ao acc.length cp) (strs acc)
  base : W.heap.size ≤ g ∧ W.heap.size ≤ q
/-- What the document's Open leaves. -/
def DocTo (W : World) (r : Int × List ByteArray) (e : Ending) (w' : World) : Prop := ∃ v, e = .returned (.agg #[v, .int .i64 r.1]) ∧ Mine W w' 9 v (strs r.2)
section
variable {W w w' : World} {g q cp : Nat} {r : Int × Nat × Int} {acc : List ByteArray} {ao : Option Addr}
theorem DS.kept (h : DS W w g q r acc ao cp) (k : Kept (fun _ => False) w w') : DS W w' g q r acc ao cp :=
  ⟨k.same h.gg (fun x => x), k.same h.rb (fun x => x), h.own.on k, h.base⟩
theorem DS.ne (h : DS W w g q r acc ao cp) : q ≠ g := by
  intro e
  have h1 := h.gg
  have h2 := h.rb
  unfold GG at h1
  unfold RB34 at h2
  rw [e, h1] at h2
  injection h2 with h2
  injection h2 with _ h2
  revert h2
  decide
theorem DS.got (h : DS W w g q r acc ao cp) (r' : Int × Nat × Int) : DS W (((w.setCell ⟨g, 0, none⟩ (.int .u64 r'.1)).setCell ⟨g, 1, none⟩ (.int .i64 (r'.2.1 : Nat))).setCell ⟨g, 2, none⟩ (.int .i64 r'.2.2)) g q r' acc ao cp := by
  have k : Kept (fun k => k = g) w (((w.setCell ⟨g, 0, none⟩ (.int .u64 r'.1)).setCell ⟨g, 1, none⟩ (.int .i64 (r'.2.1 : Nat))).setCell ⟨g, 2, none⟩ (.int .i64 r'.2.2)) := (((Kept.refl (fun k => k = g) w).setCell (p := ⟨g, 0, none⟩) (fun _ => rfl) _).setCell (p := ⟨g, 1, none⟩) (fun _ => rfl) _).setCell (p := ⟨g, 2, none⟩) (fun _ => rfl) _
  refine ⟨?_, k.same h.rb h.ne, h.own.keptS k (fun j hj e => own_ne_box h.own.own h.gg (by decide) (e ▸ hj)) (fun j e => e ▸ h.base.1), h.base⟩
  have e := h.gg
  unfold GG at e ⊢
  simp [World.setCell, Array.getElem?_modify, e]
theorem DS.push {w1 : World} {a' : Option Addr} {c' : Nat} (h : DS W w g q r acc ao cp) (s : ByteArray) (o : Obj) (hm : Mine W w1 9 (.slice a' (acc ++ [s]).length c') (strs (acc ++ [s])))
    (k : Kept (fun k => (Value.slice ao acc.length cp).ownBlock = some k) (w.alloc o) w1) : DS W w1 g q r (acc ++ [s]) a' c' := by
  have h0 := h.kept ((Kept.refl _ w).alloc o)
  exact ⟨k.same h0.gg (own_ne_box h0.own.own h0.gg (by decide)), k.same h0.rb (own_ne_box h0.own.own h0.rb (by decide)), hm, h.base⟩
theorem rb_set {w : World} {q : Nat} {v v' : Value} {E E' : Int} (b : RB34 w q v E) : RB34 ((w.setCell ⟨q, 0, none⟩ v').setCell ⟨q, 1, none⟩ (.int .i64 E')) q v' E' := by
  unfold RB34 at *; simp [World.setCell, Array.getElem?_modify, b]
theorem DS.keptQ (h : DS W w g q r acc ao cp) (x y : Value) : Mine W ((w.setCell ⟨q, 0, none⟩ x).setCell ⟨q, 1, none⟩ y) 9 (.slice ao acc.length cp) (strs acc) := by
  have k : Kept (fun k => k = q) w ((w.setCell ⟨q, 0, none⟩ x).setCell ⟨q, 1, none⟩ y) := ((Kept.refl (fun k => k = q) w).setCell (p := ⟨q, 0, none⟩) (fun _ => rfl) _).setCell (p := ⟨q, 1, none⟩) (fun _ => rfl) _
  exact h.own.keptS k (fun j hj e => own_ne_box h.own.own h.rb (by decide) (e ▸ hj)) (fun j e => e ▸ h.base.2)
/-- An end with an error; an end without. -/
theorem DS.bad {fn : Func} {p : Tmp} {a : Act} (h : DS W w g q r acc ao cp) (E : Int) (R : Int × List ByteArray) (hR : R = (E, [])) (hres : fn.results = #[.cell p 59]) (hp : a.tmps.getD p undef = .pointer (some ⟨q, 0, none⟩)) (hd : a.defers = []) :
    bodyPost Try.prog fn (fun e w' => DocTo W R e w') .ret a ((w.setCell ⟨q, 0, none⟩ (.slice none 0 0)).setCell ⟨q, 1, none⟩ (.int .i64 E)) := by
  subst hR
  exact got34_end hres hp hd (rb_set h.rb) ⟨_, rfl, Mine.nil' _ (h.keptQ _ _).kept⟩
theorem DS.good {fn : Func} {p : Tmp} {a : Act} (h : DS W w g q r acc ao cp) (R : Int × List ByteArray) (hR : R = (0, acc)) (hres : fn.results = #[.cell p 59]) (hp : a.tmps.getD p undef = .pointer (some ⟨q, 0, none⟩)) (hd : a.defers = []) :
    bodyPost Try.prog fn (fun e w' => DocTo W R e w') .ret a ((w.setCell ⟨q, 0, none⟩ (.slice ao acc.length cp)).setCell ⟨q, 1, none⟩ (.int .i64 0)) := by
  subst hR
  exact got34_end hres hp hd (rb_set h.rb) ⟨_, rfl, h.keptQ _ _⟩
end
theorem run_strI {P : Program} {w : World} {v : Value} {l : List Int} (h : SlAt w v (u8s l)) (src e dst : TypeId) (hs : P.underlying src = some (.slice e)) (he : P.underlying e = some (.int .u8)) (hd : P.underlying dst = some .string) :
    (convert src dst v).run P w = .ok (.string (strOfNums l)) w := by
  rcases Nat.eq_zero_or_pos l.length with h0 | h0
  · obtain rfl : l = [] := List.eq_nil_of_length_eq_zero h0
    obtain ⟨ao, c, rfl, hn, hc⟩ := h.val
    cases ao with
    | none => exact run_convert_bytes_nil w src e hs he 0 c dst hd
    | some a =>
      rw [run_convert_bytes_string w src dst e _ _ c hs he hd]
      simp [Conv.bytesToString, loadCells, loadCellsFrom]
      rfl
  · obtain ⟨g, off, c, rfl, hc⟩ := h.addr (by simpa using h0)
    have hl : (u8s l).length = l.length := by simp
    rw [hl]
    have := run_convert_bytes_arg (P := P) w src e hs he g off l.length c l rfl (fun i hi => by
      rw [hc i _ (by unfold u8s; rw [List.getElem?_map, List.getElem?_eq_getElem hi]; rfl)]
      simp [List.getD_eq_getElem?_getD, List.getElem?_eq_getElem hi]) dst hd
    exact this
theorem SliceAt.slAt {w : World} {ao : Option Addr} {c : Nat} {l : List Int} (h : SliceAt w (.slice ao l.length c) ao l.length c (u8s l)) : SlAt w (.slice ao l.length c) (u8s l) := by
  have hl : (u8s l).length = l.length := by simp
  refine ⟨ao, c, by rw [hl], fun h0 => List.eq_nil_of_length_eq_zero (by rw [hl]; exact h.none h0), fun a ha j u hu => h.cells a ha j u hu⟩
end Go.Proofs.Ytkidbbmdlmnokaa
