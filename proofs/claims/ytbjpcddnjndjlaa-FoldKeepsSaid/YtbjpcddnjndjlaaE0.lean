/- package fold: plain facts of Level; boxes. -/
import Derived.Test.YtbjpcddnjndjlaaKA
namespace Go.Proofs.Ytbjpcddnjndjlaa
open Go.RowKit

/-- What is wrong with two histograms that are to be brought to one scale; what comes of them. -/
def levE (a b : HistV) : Nat := if a.err ≠ 0 then a.err else b.err
def levS (a b : HistV) : Int := if a.sc ≤ b.sc then a.sc else b.sc
def levX (a b : HistV) : HistV := if levE a b = 0 then downH a (a.sc - levS a b).toNat else zeroH
def levY (a b : HistV) : HistV := if levE a b = 0 then downH b (b.sc - levS a b).toNat else zeroH
def LevOut (w : World) (X Y : HistV) (E : Nat) (e : Ending) (w' : World) : Prop :=
  ∃ p1 n1 p2 n2, e = .returned (.tuple #[histV X p1 n1, histV Y p2 n2, .int .i64 (E : Int)]) ∧ Mine w w' 22 p1 (uvals X.pl) ∧ Mine w w' 22 n1 (uvals X.nl) ∧ Mine w w' 22 p2 (uvals Y.pl) ∧ Mine w w' 22 n2 (uvals Y.nl)
theorem lev_good {a b : HistV} (h1 : a.err = 0) (h2 : b.err = 0) : levE a b = 0 ∧ downE a (a.sc - levS a b) = 0 ∧ downE b (b.sc - levS a b) = 0 ∧ levX a b = downR a (a.sc - levS a b) ∧ levY a b = downR b (b.sc - levS a b) := by
  have e : levE a b = 0 := by unfold levE; rw [if_neg (by omega), h2]
  obtain ⟨⟨a1, a2⟩, _⟩ := err_light h1
  obtain ⟨⟨b1, b2⟩, _⟩ := err_light h2
  have hs : levS a b ≤ a.sc ∧ levS a b ≤ b.sc ∧ -10 ≤ levS a b := by unfold levS; split <;> omega
  have e1 : downE a (a.sc - levS a b) = 0 := downE_mk h1 (by omega) (by omega)
  have e2 : downE b (b.sc - levS a b) = 0 := downE_mk h2 (by omega) (by omega)
  refine ⟨e, e1, e2, ?_, ?_⟩
  · unfold levX downR; rw [if_pos e, if_pos e1]
  · unfold levY downR; rw [if_pos e, if_pos e2]
theorem lev_bad {a b : HistV} (h : levE a b ≠ 0) : levX a b = zeroH ∧ levY a b = zeroH := by unfold levX levY; rw [if_neg h, if_neg h]; exact ⟨rfl, rfl⟩
theorem levS_min (a b : HistV) : levS a b = min a.sc b.sc := by unfold levS; omega
theorem lev_end {fn : Func} {p r s : Tmp} {a : Act} {P : Ending → World → Prop} {w : World} {q q2 : Nat} {h h2 : HistV} {pv nv pv2 nv2 x : Value} (hres : fn.results = #[.cell p 27, .cell r 27, .tmp s]) (hp : a.tmps.getD p undef = .pointer (some ⟨q, 0, none⟩)) (hr : a.tmps.getD r undef = .pointer (some ⟨q2, 0, none⟩)) (hx : a.tmps.getD s undef = x) (hd : a.defers = [])
    (hg : HistBox w q h pv nv) (hg2 : HistBox w q2 h2 pv2 nv2) (hP : P (.returned (.tuple #[histV h pv nv, histV h2 pv2 nv2, x])) w) : bodyPost Try.prog fn P .ret a w := by
  refine bodyPost_ret (v := .tuple #[histV h pv nv, histV h2 pv2 nv2, x]) ?_ hd hP
  have hp' : a.tmps[p]?.getD undef = .pointer (some ⟨q, 0, none⟩) := by simpa using hp
  have hr' : a.tmps[r]?.getD undef = .pointer (some ⟨q2, 0, none⟩) := by simpa using hr
  have hx' : a.tmps[s]?.getD undef = x := by simpa using hx
  have hl := run_loadVar_row (P := Try.prog) w q 27 27 _ (0, 0) _ hg Try.underlying27 rfl hist_info
  have hl2 := run_loadVar_row (P := Try.prog) w q2 27 27 _ (0, 0) _ hg2 Try.underlying27 rfl hist_info
  simp [results, hres, hp', hr', hx', asAddr, hl, hl2, histV]

/-- Four boxes of Level. -/
structure LevBox (w wr : World) (a b x y : HistV) (ap an bp bn xp xn yp yn : Value) : Prop where
  a : HistBox wr w.heap.size a ap an
  b : HistBox wr (w.heap.size + 1) b bp bn
  x : HistBox wr (w.heap.size + 1 + 1) x xp xn
  y : HistBox wr (w.heap.size + 1 + 1 + 1) y yp yn
theorem LevBox.on {w wr w' : World} {a b x y : HistV} {ap an bp bn xp xn yp yn : Value} (h : LevBox w wr a b x y ap an bp bn xp xn yp yn) (k : Kept (fun _ => False) wr w') : LevBox w w' a b x y ap an bp bn xp xn yp yn :=
  ⟨h.a.same k (fun x => x), h.b.same k (fun x => x), h.x.same k (fun x => x), h.y.same k (fun x => x)⟩
theorem LevBox.mk0 (w : World) (a b : HistV) (ap an bp bn : Value) : LevBox w ((((w.alloc (.cells #[.int .i64 a.sc, .int .u64 (a.ze : Int), .int .i64 a.po, ap, .int .i64 a.no, an] 27)).alloc (.cells #[.int .i64 b.sc, .int .u64 (b.ze : Int), .int .i64 b.po, bp, .int .i64 b.no, bn] 27)).alloc (.cells #[.int .i64 0, .int .u64 0, .int .i64 0, .slice none 0 0, .int .i64 0, .slice none 0 0] 27)).alloc (.cells #[.int .i64 0, .int .u64 0, .int .i64 0, .slice none 0 0, .int .i64 0, .slice none 0 0] 27)) a b zeroH zeroH ap an bp bn (.slice none 0 0) (.slice none 0 0) (.slice none 0 0) (.slice none 0 0) := by
  have k := fun (w : World) o => (Kept.refl (fun _ => False) w).alloc o
  refine ⟨?_, ?_, ?_, ?_⟩
  · exact (((hist_boxed w a ap an).same (k _ _) (fun x => x)).same (k _ _) (fun x => x)).same (k _ _) (fun x => x)
  · have := hist_boxed (w.alloc (.cells #[.int .i64 a.sc, .int .u64 (a.ze : Int), .int .i64 a.po, ap, .int .i64 a.no, an] 27)) b bp bn
    rw [show (w.alloc (.cells #[.int .i64 a.sc, .int .u64 (a.ze : Int), .int .i64 a.po, ap, .int .i64 a.no, an] 27)).heap.size = w.heap.size + 1 by simp] at this
    exact (this.same (k _ _) (fun x => x)).same (k _ _) (fun x => x)
  · have := hist_alloc ((w.alloc (.cells #[.int .i64 a.sc, .int .u64 (a.ze : Int), .int .i64 a.po, ap, .int .i64 a.no, an] 27)).alloc (.cells #[.int .i64 b.sc, .int .u64 (b.ze : Int), .int .i64 b.po, bp, .int .i64 b.no, bn] 27))
    rw [show ((w.alloc (.cells #[.int .i64 a.sc, .int .u64 (a.ze : Int), .int .i64 a.po, ap, .int .i64 a.no, an] 27)).alloc (.cells #[.int .i64 b.sc, .int .u64 (b.ze : Int), .int .i64 b.po, bp, .int .i64 b.no, bn] 27)).heap.size = w.heap.size + 1 + 1 by simp] at this
    exact this.same (k _ _) (fun x => x)
  · have := hist_alloc (((w.alloc (.cells #[.int .i64 a.sc, .int .u64 (a.ze : Int), .int .i64 a.po, ap, .int .i64 a.no, an] 27)).alloc (.cells #[.int .i64 b.sc, .int .u64 (b.ze : Int), .int .i64 b.po, bp, .int .i64 b.no, bn] 27)).alloc (.cells #[.int .i64 0, .int .u64 0, .int .i64 0, .slice none 0 0, .int .i64 0, .slice none 0 0] 27))
    rw [show (((w.alloc (.cells #[.int .i64 a.sc, .int .u64 (a.ze : Int), .int .i64 a.po, ap, .int .i64 a.no, an] 27)).alloc (.cells #[.int .i64 b.sc, .int .u64 (b.ze : Int), .int .i64 b.po, bp, .int .i64 b.no, bn] 27)).alloc (.cells #[.int .i64 0, .int .u64 0, .int .i64 0, .slice none 0 0, .int .i64 0, .slice none 0 0] 27)).heap.size = w.heap.size + 1 + 1 + 1 by simp] at this
    exact this
end Go.Proofs.Ytbjpcddnjndjlaa
