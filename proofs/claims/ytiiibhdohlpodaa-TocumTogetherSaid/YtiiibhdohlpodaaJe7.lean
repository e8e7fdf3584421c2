/- Texts put together for a seat that lacks some of the functions: E2 (tools/strip.py). -/
import Derived.Test.YtiiibhdohlpodaaJe1
-- E2
namespace Go.Proofs.Ytiiibhdohlpodaa
open Go.RowKit
attribute [local go_sem ↓] Go.wp_at_zero Go.wp_at_succ

/-- A pair in its block. -/
def PairBox (w : World) (q : Nat) (X Y : HistV) (p1 n1 p2 n2 : Value) (E : Nat) : Prop := w.heap[q]? = some (.cells #[.int .i64 X.sc, .int .u64 (X.ze : Int), .int .i64 X.po, p1, .int .i64 X.no, n1, .int .i64 Y.sc, .int .u64 (Y.ze : Int), .int .i64 Y.po, p2, .int .i64 Y.no, n2, .int .i64 (E : Int)] 89 (0, 0))
theorem PairBox.c {w : World} {q : Nat} {X Y : HistV} {p1 n1 p2 n2 : Value} {E : Nat} (b : PairBox w q X Y p1 n1 p2 n2 E) :
    (w.cell? ⟨q, 0, none⟩ = some (.int .i64 X.sc) ∧ w.cell? ⟨q, 1, none⟩ = some (.int .u64 (X.ze : Int)) ∧ w.cell? ⟨q, 2, none⟩ = some (.int .i64 X.po) ∧ w.cell? ⟨q, 3, none⟩ = some p1 ∧ w.cell? ⟨q, 4, none⟩ = some (.int .i64 X.no) ∧ w.cell? ⟨q, 5, none⟩ = some n1) ∧
    (w.cell? ⟨q, 6, none⟩ = some (.int .i64 Y.sc) ∧ w.cell? ⟨q, 7, none⟩ = some (.int .u64 (Y.ze : Int)) ∧ w.cell? ⟨q, 8, none⟩ = some (.int .i64 Y.po) ∧ w.cell? ⟨q, 9, none⟩ = some p2 ∧ w.cell? ⟨q, 10, none⟩ = some (.int .i64 Y.no) ∧ w.cell? ⟨q, 11, none⟩ = some n2) ∧ w.cell? ⟨q, 12, none⟩ = some (.int .i64 (E : Int)) := by
  have h := fun i => cell_of_row w q i _ _ _ b
  refine ⟨⟨?_, ?_, ?_, ?_, ?_, ?_⟩, ⟨?_, ?_, ?_, ?_, ?_, ?_⟩, ?_⟩ <;> (rw [h]; rfl)
theorem PairBox.f {w : World} {q : Nat} {X Y : HistV} {p1 n1 p2 n2 : Value} {E : Nat} (b : PairBox w q X Y p1 n1 p2 n2 E) (i : Nat) : w.frozen? ⟨q, i, none⟩ = false := by
  unfold PairBox at b; simp [World.frozen?, b]
theorem PairBox.same {S : Nat → Prop} {w w' : World} {q : Nat} {X Y : HistV} {p1 n1 p2 n2 : Value} {E : Nat} (b : PairBox w q X Y p1 n1 p2 n2 E) (hk : Kept S w w') (hn : ¬ S q) : PairBox w' q X Y p1 n1 p2 n2 E := hk.same b hn
def set13 (w : World) (q : Nat) (a b c d e f a' b' c' d' e' f' g : Value) : World := (((((((set6 w q a b c d e f).setCell ⟨q, 6, none⟩ a').setCell ⟨q, 7, none⟩ b').setCell ⟨q, 8, none⟩ c').setCell ⟨q, 9, none⟩ d').setCell ⟨q, 10, none⟩ e').setCell ⟨q, 11, none⟩ f').setCell ⟨q, 12, none⟩ g
theorem PairBox.set {w : World} {q : Nat} {X Y : HistV} {p1 n1 p2 n2 : Value} {E : Nat} (b : PairBox w q X Y p1 n1 p2 n2 E) (X' Y' : HistV) (p1' n1' p2' n2' : Value) (E' : Nat) :
    PairBox (set13 w q (.int .i64 X'.sc) (.int .u64 (X'.ze : Int)) (.int .i64 X'.po) p1' (.int .i64 X'.no) n1' (.int .i64 Y'.sc) (.int .u64 (Y'.ze : Int)) (.int .i64 Y'.po) p2' (.int .i64 Y'.no) n2' (.int .i64 (E' : Int))) q X' Y' p1' n1' p2' n2' E' := by
  unfold PairBox set13 set6 at *; simp [World.setCell, Array.getElem?_modify, b]
theorem set13_kept (w : World) (q : Nat) (a b c d e f a' b' c' d' e' f' g : Value) : Kept (fun k => k = q) w (set13 w q a b c d e f a' b' c' d' e' f' g) :=
  (((((((set6_kept w q a b c d e f).setCell (p := ⟨q, 6, none⟩) (fun _ => rfl) a').setCell (p := ⟨q, 7, none⟩) (fun _ => rfl) b').setCell (p := ⟨q, 8, none⟩) (fun _ => rfl) c').setCell (p := ⟨q, 9, none⟩) (fun _ => rfl) d').setCell (p := ⟨q, 10, none⟩) (fun _ => rfl) e').setCell (p := ⟨q, 11, none⟩) (fun _ => rfl) f').setCell (p := ⟨q, 12, none⟩) (fun _ => rfl) g
theorem Mine.set13 {W w : World} {v : Value} {xs : List Value} {q : Nat} {X Y : HistV} {p1 n1 p2 n2 : Value} {E : Nat} (m : Mine W w 25 v xs) (hb : PairBox w q X Y p1 n1 p2 n2 E) (hq : W.heap.size ≤ q) (a b c d e f a' b' c' d' e' f' g : Value) : Mine W (set13 w q a b c d e f a' b' c' d' e' f' g) 25 v xs :=
  m.keptS (set13_kept w q a b c d e f a' b' c' d' e' f' g) (fun k e x => own_box m.own hb (by decide) (by rw [e, x])) (fun k e => by omega)
def pairV (X Y : HistV) (p1 n1 p2 n2 : Value) (E : Nat) : Value := .agg #[.int .i64 X.sc, .int .u64 (X.ze : Int), .int .i64 X.po, p1, .int .i64 X.no, n1, .int .i64 Y.sc, .int .u64 (Y.ze : Int), .int .i64 Y.po, p2, .int .i64 Y.no, n2, .int .i64 (E : Int)]
def PairOut (w : World) (X Y : HistV) (E : Nat) (e : Ending) (w' : World) : Prop :=
  ∃ p1 n1 p2 n2, e = .returned (pairV X Y p1 n1 p2 n2 E) ∧ Mine w w' 25 p1 (uvals X.pl) ∧ Mine w w' 25 n1 (uvals X.nl) ∧ Mine w w' 25 p2 (uvals Y.pl) ∧ Mine w w' 25 n2 (uvals Y.nl)
theorem pair_bad_out {w w' : World} {a b : HistV} {E : Nat} (hE : levE a b = E) (h0 : E ≠ 0) (k : Kept (fun _ => False) w w') : PairOut w (levX a b) (levY a b) (levE a b) (.returned (pairV zeroH zeroH (.slice none 0 0) (.slice none 0 0) (.slice none 0 0) (.slice none 0 0) E)) w' := by
  obtain ⟨e1, e2⟩ := lev_bad (a := a) (b := b) (by omega)
  rw [e1, e2, hE]
  exact ⟨_, _, _, _, rfl, Mine.nil' _ k, Mine.nil' _ k, Mine.nil' _ k, Mine.nil' _ k⟩
/-- The boxes of a call with two histograms and an answer of two. -/
structure PairLB (w wr : World) (a b X Y : HistV) (ap an bp bn p1 n1 p2 n2 : Value) (E : Nat) : Prop where
  a : HistBox wr w.heap.size a ap an
  b : HistBox wr (w.heap.size + 1) b bp bn
  r : PairBox wr (w.heap.size + 1 + 1) X Y p1 n1 p2 n2 E
theorem PairLB.on {w wr w' : World} {a b X Y : HistV} {ap an bp bn p1 n1 p2 n2 : Value} {E : Nat} (h : PairLB w wr a b X Y ap an bp bn p1 n1 p2 n2 E) (k : Kept (fun _ => False) wr w') : PairLB w w' a b X Y ap an bp bn p1 n1 p2 n2 E :=
  ⟨h.a.same k (fun x => x), h.b.same k (fun x => x), h.r.same k (fun x => x)⟩
def zPair : Obj := .cells #[.int .i64 0, .int .u64 0, .int .i64 0, .slice none 0 0, .int .i64 0, .slice none 0 0, .int .i64 0, .int .u64 0, .int .i64 0, .slice none 0 0, .int .i64 0, .slice none 0 0, .int .i64 0] 89
theorem PairLB.mk0 (w : World) (a b : HistV) (ap an bp bn : Value) : PairLB w (((w.alloc (.cells #[.int .i64 a.sc, .int .u64 (a.ze : Int), .int .i64 a.po, ap, .int .i64 a.no, an] 30)).alloc (.cells #[.int .i64 b.sc, .int .u64 (b.ze : Int), .int .i64 b.po, bp, .int .i64 b.no, bn] 30)).alloc zPair) a b zeroH zeroH ap an bp bn (.slice none 0 0) (.slice none 0 0) (.slice none 0 0) (.slice none 0 0) 0 := by
  have k := fun (w : World) o => (Kept.refl (fun _ => False) w).alloc o
  refine ⟨?_, ?_, ?_⟩
  · exact ((hist_boxed w a ap an).same (k _ _) (fun x => x)).same (k _ _) (fun x => x)
  · have := hist_boxed (w.alloc (.cells #[.int .i64 a.sc, .int .u64 (a.ze : Int), .int .i64 a.po, ap, .int .i64 a.no, an] 30)) b bp bn
    rw [show (w.alloc (.cells #[.int .i64 a.sc, .int .u64 (a.ze : Int), .int .i64 a.po, ap, .int .i64 a.no, an] 30)).heap.size = w.heap.size + 1 by simp] at this
    exact this.same (k _ _) (fun x => x)
  · have : PairBox (((w.alloc (.cells #[.int .i64 a.sc, .int .u64 (a.ze : Int), .int .i64 a.po, ap, .int .i64 a.no, an] 30)).alloc (.cells #[.int .i64 b.sc, .int .u64 (b.ze : Int), .int .i64 b.po, bp, .int .i64 b.no, bn] 30)).alloc zPair) _ zeroH zeroH (.slice none 0 0) (.slice none 0 0) (.slice none 0 0) (.slice none 0 0) 0 := heap_alloc_new _ zPair
    rw [show ((w.alloc (.cells #[.int .i64 a.sc, .int .u64 (a.ze : Int), .int .i64 a.po, ap, .int .i64 a.no, an] 30)).alloc (.cells #[.int .i64 b.sc, .int .u64 (b.ze : Int), .int .i64 b.po, bp, .int .i64 b.no, bn] 30)).heap.size = w.heap.size + 1 + 1 by simp] at this
    exact this
end Go.Proofs.Ytiiibhdohlpodaa

