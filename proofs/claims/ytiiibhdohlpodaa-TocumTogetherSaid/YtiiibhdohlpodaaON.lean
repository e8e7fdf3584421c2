/- Layer 16: histograms in boxes (written by tools/gen_XON.py). -/
import Derived.Test.YtiiibhdohlpodaaJe1
import Derived.Test.YtiiibhdohlpodaaOX
namespace Go.Proofs.Ytiiibhdohlpodaa
open Go.RowKit
attribute [local go_sem ↓] Go.wp_at_zero Go.wp_at_succ

/-- A histogram's cells. -/
def histA (h : HistV) (p n : Value) : Array Value := #[.int .i64 h.sc, .int .u64 (h.ze : Int), .int .i64 h.po, p, .int .i64 h.no, n]
theorem histV_A (h : HistV) (p n : Value) : histV h p n = .agg (histA h p n) := rfl
/-- A histogram whose counts are new. -/
structure HN (W w : World) (h : HistV) (a b : Option Addr) (c d : Nat) : Prop where
  mp : Mine W w 25 (.slice a h.pl.length c) (uvals h.pl)
  mn : Mine W w 25 (.slice b h.nl.length d) (uvals h.nl)
theorem HN.on {W w w' : World} {h : HistV} {a b : Option Addr} {c d : Nat} (x : HN W w h a b c d) (k : Kept (fun _ => False) w w') : HN W w' h a b c d := ⟨x.mp.on k, x.mn.on k⟩
theorem HN.down {W0 W w : World} {h : HistV} {a b : Option Addr} {c d : Nat} (x : HN W w h a b c d) (k : Kept (fun _ => False) W0 W) : HN W0 w h a b c d := ⟨x.mp.down k, x.mn.down k⟩
theorem HN.set {W w w' : World} {h : HistV} {a b : Option Addr} {c d k : Nat} {cs : Array Value} {T : TypeId} (x : HN W w h a b c d) (hb : w.heap[k]? = some (.cells cs T (0, 0))) (h2 : 25 ≠ T) (h0 : W.heap.size ≤ k) (kk : Kept (fun i => i = k) w w') : HN W w' h a b c d :=
  ⟨x.mp.keptS kk (fun _ e e2 => own_box x.mp.own hb h2 (e2 ▸ e)) (fun _ e => by rw [e]; exact h0), x.mn.keptS kk (fun _ e e2 => own_box x.mn.own hb h2 (e2 ▸ e)) (fun _ e => by rw [e]; exact h0)⟩
theorem HN.in_ {W w : World} {h : HistV} {a b : Option Addr} {c d : Nat} (x : HN W w h a b c d) (ok : h.ok) : HistIn w h (.slice a h.pl.length c) (.slice b h.nl.length d) :=
  ⟨⟨x.mp.at_, x.mn.at_⟩, ok, fun a' n' c' e => by injection e with _ e2 e3; have := own_capW x.mp.own; rw [uvals_length] at this; omega, fun a' n' c' e => by injection e with _ e2 e3; have := own_capW x.mn.own; rw [uvals_length] at this; omega⟩
theorem HN.of {W w : World} {h : HistV} {p n : Value} (m1 : Mine W w 25 p (uvals h.pl)) (m2 : Mine W w 25 n (uvals h.nl)) : ∃ a b c d, p = .slice a h.pl.length c ∧ n = .slice b h.nl.length d ∧ HN W w h a b c d := by
  obtain ⟨a, c, e1⟩ := m1.slice
  obtain ⟨b, d, e2⟩ := m2.slice
  rw [uvals_length] at e1 e2
  subst e1 e2
  exact ⟨a, b, c, d, rfl, rfl, m1, m2⟩
/-- What Together answers. -/
def TogOut (w : World) (R : HistV × Bool) (e : Ending) (w' : World) : Prop :=
  ∃ a b c d, e = .returned (.tuple #[histV R.1 (.slice a R.1.pl.length c) (.slice b R.1.nl.length d), .bool R.2]) ∧ HN w w' R.1 a b c d
theorem TogOut.zero {w w' : World} (k : Kept (fun _ => False) w w') : TogOut w (zeroH, false) (.returned (.tuple #[.agg #[.int .i64 0, .int .u64 0, .int .i64 0, .slice none 0 0, .int .i64 0, .slice none 0 0], .bool false])) w' :=
  ⟨none, none, 0, 0, rfl, Mine.nil' _ k, Mine.nil' _ k⟩
theorem few_err {h : HistV} (e : h.err = 0) : h.pl.length ≤ 1000000 ∧ h.nl.length ≤ 1000000 := by
  have h := err_light e
  have h1 := sideE_zero h.2.1
  have h2 := sideE_zero h.2.2.1
  omega
theorem wpList_build_v {P : Program} {ops : Array Oper} {rest : List Oper} {o : Oper} {a : Act} {w : World} {Q : Exit → Act → World → Prop} (hg : o.guard = none) (t : TypeId) (x y : Operand) (ho : o.op = .build t #[(0, x), (1, y)]) (v1 v2 v : Value) (hx : a.eval x = v1) (hy : a.eval y = v2)
    (hb : ∀ w, (Instr.build t #[(0, v1), (1, v2)]).run P w = .ok v w) (h : wpList P ops Q rest (a.put o.dst v) w) : wpList P ops Q (o :: rest) a w := by
  refine wpList_plain hg fun K hK => ?_
  have e : (#[(0, x), (1, y)] : Array (Nat × Operand)).map (fun (i, x) => (i, a.eval x)) = #[(0, v1), (1, v2)] := by subst hx hy; simp
  unfold Oper.wp execOp
  simp only [ho, e, Sem.run_bind, hb, Result.andThen_ok]
  exact hK _ _ h
theorem wpList_index_v {P : Program} {ops : Array Oper} {rest : List Oper} {o : Oper} {a : Act} {w : World} {Q : Exit → Act → World → Prop} (hg : o.guard = none) (t : TypeId) (x y : Operand) (ho : o.op = .index t x y) (v1 v2 v : Value) (hx : a.eval x = v1) (hy : a.eval y = v2)
    (hb : ∀ w, (Instr.index t v1 v2).run P w = .ok v w) (h : wpList P ops Q rest (a.put o.dst v) w) : wpList P ops Q (o :: rest) a w := by
  refine wpList_plain hg fun K hK => ?_
  unfold Oper.wp execOp
  simp only [ho, hx, hy, Sem.run_bind, hb, Result.andThen_ok]
  exact hK _ _ h
end Go.Proofs.Ytiiibhdohlpodaa
