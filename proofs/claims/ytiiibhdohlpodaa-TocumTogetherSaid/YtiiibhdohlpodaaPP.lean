/- Rows of points: those that came in. -/
import Derived.Test.YtiiibhdohlpodaaJi
import Derived.Test.YtiiibhdohlpodaaGY
import Derived.Lib.SmallJoins
import Derived.Deep.Strs
import Derived.Deep.Slices
import Derived.Deep.Fields
import Derived.ChangeSame
namespace Go.Proofs.Ytiiibhdohlpodaa
open Go.ChangeShapes Go.WideShapes Go.ChangeAt Go.Deep Go.RowKit

/-- A point and where its parts lie. -/
structure PtV where
  x : Pnt
  aa : Option Addr
  pa : Option Addr
  na : Option Addr
  ac : Nat
  pc : Nat
  nc : Nat
def PtV.av (p : PtV) : Value := .slice p.aa p.x.L.length p.ac
def PtV.pv (p : PtV) : Value := .slice p.pa p.x.h.pl.length p.pc
def PtV.nv (p : PtV) : Value := .slice p.na p.x.h.nl.length p.nc
def PtV.cs (p : PtV) : Array Value := pntC p.x p.av p.pv p.nv
def cellsPt (p : PtV) : List Value := p.cs.toList
theorem cfPt : Cf cellsPt 17 := ⟨fun _ => rfl, fun p u hu => by
  simp only [cellsPt, PtV.cs, pntC, PtV.av, PtV.pv, PtV.nv, List.mem_cons, List.not_mem_nil, or_false] at hu
  rcases hu with rfl | rfl | rfl | rfl | rfl | rfl | rfl | rfl | rfl | rfl | rfl | rfl | rfl | rfl | rfl | rfl | rfl <;> rfl⟩
def PtV.At (w : World) (p : PtV) : Prop := PntAt w p.x p.aa p.ac p.pv p.nv
theorem PtV.At.on {w w' : World} {p : PtV} (h : p.At w) (k : Kept (fun _ => False) w w') : p.At w' := PntAt.on h k
/-- What the types bound. -/
def PtV.ok (p : PtV) : Prop := p.x.ok ∧ p.x.L.length ≤ 9223372036854775807

set_option maxRecDepth 100000 in
theorem pnt_trod {H : Type} {enc : TypeId × Value → H} {W : World} {sp : Nat} {c0 c1 c2 c3 c4 c5 c6 c7 c8 c9 d0 d1 d2 d3 d4 d5 d6 : Value} {d : DataW H} {p : List MemPlace} (h : DataW.Trod enc Try.prog W sp (fun _ => true) true 37 (.agg #[c0, c1, c2, c3, c4, c5, c6, c7, c8, c9, d0, d1, d2, d3, d4, d5, d6]) d p) :
    ∃ (x : Pnt) (aa pa na : Option Addr) (ac pc nc : Nat), .agg #[c0, c1, c2, c3, c4, c5, c6, c7, c8, c9, d0, d1, d2, d3, d4, d5, d6] = pntV x (.slice aa x.L.length ac) (.slice pa x.h.pl.length pc) (.slice na x.h.nl.length nc) ∧ PntAt W x aa ac (.slice pa x.h.pl.length pc) (.slice na x.h.nl.length nc) ∧ x.ok ∧ x.L.length ≤ 9223372036854775807 := by
  obtain ⟨fuel, hf⟩ := h
  obtain ⟨y0, y1, y2, y3, y4, y5, y6, y7, y8, y9, y10, y11, n, g0, g1, g2, g3, g4, g5, g6, g7, g8, g9, g10, g11⟩ := trod_struct12 Try.underlying37 (cs := [c0, c1, c2, c3, c4, c5, c6, c7, c8, c9, d0, d1, d2, d3, d4, d5, d6]) (by simpa [Value.cells] using hf)
  have ks : Try.prog.cellsOf 9 = 1 := by kernel_rfl
  have kp : Try.prog.cellsOf 35 = 1 := by kernel_rfl
  have k0 : Try.prog.cellsOf 3 = 1 := by kernel_rfl
  have kb : Try.prog.cellsOf 4 = 1 := by kernel_rfl
  have k1 : Try.prog.cellsOf 25 = 1 := by kernel_rfl
  have k6 : Try.prog.cellsOf 30 = 6 := by kernel_rfl
  simp only [ks, kp, k0, kb, k1, k6, List.drop_zero, List.drop_succ_cons, List.take_succ_cons, List.take_zero] at g0 g1 g2 g3 g4 g5 g6 g7 g8 g9 g10 g11
  obtain ⟨nm, e0, _, _⟩ := DataW.trod_string Try.underlying9 g0
  obtain ⟨aa, al, ac, e1⟩ := Go.Joins.slice_form Try.underlying35 g1
  injection e0 with e0 _
  injection e1 with e1 _
  subst e0 e1
  obtain ⟨a2, rfl, w2⟩ := trod_i64 Try.underlying3 g2
  obtain ⟨a3, rfl, w3⟩ := trod_i64 Try.underlying3 g3
  obtain ⟨b4, e4, _⟩ := DataW.trod_bool Try.underlying4 g4
  injection e4 with e4 _
  subst e4
  obtain ⟨a5, rfl, w5⟩ := trod_i64 Try.underlying3 g5
  obtain ⟨a6, rfl, w6⟩ := trod_i64 Try.underlying3 g6
  obtain ⟨a7, rfl, w7⟩ := trod_i64 Try.underlying3 g7
  obtain ⟨a8, rfl, w8⟩ := trod_i64 Try.underlying25 g8
  obtain ⟨a9, rfl, w9⟩ := trod_i64 Try.underlying25 g9
  obtain ⟨hh, eh, hat, hok⟩ := hist_cells g10
  obtain ⟨a11, rfl, w11⟩ := trod_i64 Try.underlying3 g11
  simp only [List.cons.injEq, and_true, true_and] at eh
  obtain ⟨rfl, rfl, rfl, rfl⟩ := eh
  obtain ⟨L, hL, hps, hc, hm⟩ := pairs_of (d := y1.1) (p := y1.2) ⟨n, by simpa [Value.cells] using g1⟩
  subst hL
  obtain ⟨⟨pa, pc, rfl⟩, na, nc, rfl⟩ := hat.sl
  exact ⟨⟨nm, L, a2, a3, b4, a5, a6, a7, a8, a9, hh, a11⟩, aa, pa, na, ac, pc, nc, rfl, ⟨hps.at_, hc, hat⟩, ⟨bd_i64 w2, bd_i64 w3, bd_i64 w5, bd_i64 w6, bd_i64 w7, bd_u64 w8, bd_u64 w9, hok, bd_i64 w11⟩, hm⟩
set_option maxRecDepth 100000 in
theorem pnt_cells {H : Type} {enc : TypeId × Value → H} {W : World} {sp fuel : Nat} {c0 c1 c2 c3 c4 c5 c6 c7 c8 c9 d0 d1 d2 d3 d4 d5 d6 : Value} {y : DataW H × List MemPlace} (hf : DataW.trod enc Try.prog W sp (fun _ => true) true fuel 37 [c0, c1, c2, c3, c4, c5, c6, c7, c8, c9, d0, d1, d2, d3, d4, d5, d6] = some y) :
    ∃ p : PtV, [c0, c1, c2, c3, c4, c5, c6, c7, c8, c9, d0, d1, d2, d3, d4, d5, d6] = cellsPt p ∧ p.At W ∧ p.ok := by
  have h : DataW.Trod enc Try.prog W sp (fun _ => true) true 37 (.agg #[c0, c1, c2, c3, c4, c5, c6, c7, c8, c9, d0, d1, d2, d3, d4, d5, d6]) y.1 y.2 := ⟨fuel, by simpa [Value.cells] using hf⟩
  obtain ⟨x, aa, pa, na, ac, pc, nc, e, hp, hok, hl⟩ := pnt_trod h
  refine ⟨⟨x, aa, pa, na, ac, pc, nc⟩, ?_, hp, hok, hl⟩
  injection e with e
  have := congrArg Array.toList e
  simpa [cellsPt, PtV.cs, PtV.av, PtV.pv, PtV.nv] using this
/-- Points that came in. -/
structure PtsIn (W : World) (ao : Option Addr) (L : List PtV) : Prop where
  at_ : GAt cellsPt 17 W ao L
  each : ∀ p ∈ L, p.At W ∧ p.ok
set_option maxRecDepth 100000 in
theorem pts_of {H : Type} {enc : TypeId × Value → H} {W : World} {sp : Nat} {a : Option Addr} {len cap : Nat} {d : DataW H} {p : List MemPlace}
    (h : DataW.Trod enc Try.prog W sp (fun _ => true) true 22 (.slice a len cap) d p) : ∃ L : List PtV, L.length = len ∧ PtsIn W a L ∧ len ≤ cap ∧ len ≤ 9223372036854775807 := by
  obtain ⟨fuel, hf⟩ := h
  have k6 : Try.prog.cellsOf 37 = 17 := by kernel_rfl
  rcases open_slice Try.underlying22 hf with ⟨hcs, _⟩ | ⟨x, l, c, m, n, D, Pl, hcs, _, hl, hm, hmm, _, hi⟩
  · simp [Value.cells] at hcs
    obtain ⟨rfl, rfl, rfl⟩ := hcs
    exact ⟨[], rfl, ⟨fun h => absurd h (by simp), fun p hp => (by cases hp)⟩, Nat.le_refl _, by omega⟩
  · simp [Value.cells] at hcs
    obtain ⟨rfl, rfl, rfl⟩ := hcs
    unfold maxLen at hm
    rcases Nat.eq_zero_or_pos len with h0 | h0
    · subst h0
      exact ⟨[], rfl, ⟨fun h => absurd h (by simp), fun p hp => (by cases hp)⟩, by omega, by omega⟩
    · have key0 : ∀ i, i < len → ∃ q : PtV, (∀ j u, (cellsPt q)[j]? = some u → W.cell? (x.add (i * 17 + j)) = some u) ∧ q.At W ∧ q.ok := by
        intro i hi'
        obtain ⟨cs', hc, ht'⟩ := hi i (by simp at hmm; omega)
        rw [k6] at hc
        obtain ⟨hlen, hcl, hat⟩ := World.cells?_some hc
        match cs', hcl with
        | [c0, c1, c2, c3, c4, c5, c6, c7, c8, c9, d0, d1, d2, d3, d4, d5, d6], _ =>
          obtain ⟨q, e, hq⟩ := pnt_cells ht'
          refine ⟨q, fun j u hj => ?_, hq⟩
          rw [← e] at hj
          have hj2 : j < 17 := by
            have := (List.getElem?_eq_some_iff.1 hj).1
            simpa using this
          have := hat j hj2
          rw [Go.Deep.add_add] at this
          rw [this]
          exact hj
      obtain ⟨g, o, spot⟩ := x
      have hspot : spot = Option.none := by
        obtain ⟨q, hq, _⟩ := key0 0 h0
        have c0 := hq 0 _ rfl
        simpa [Addr.add] using World.cell?_spot c0
      subst hspot
      have key : ∀ i, i < len → ∃ q : PtV, (∀ j u, (cellsPt q)[j]? = some u → W.cell? ⟨g, o + i * 17 + j, none⟩ = some u) ∧ q.At W ∧ q.ok := by
        intro i hi'
        obtain ⟨q, hq, h1⟩ := key0 i hi'
        refine ⟨q, fun j u hj => ?_, h1⟩
        have := hq j u hj
        rwa [Go.WideShapes.add_plain, ← Nat.add_assoc] at this
      obtain ⟨rs, hrs, hp⟩ := choose_list key
      refine ⟨rs, hrs, ⟨fun _ => ⟨g, o, rfl, fun i p hi => (hp i p hi).1⟩, fun p hpm => ?_⟩, hl, by omega⟩
      obtain ⟨i, hi, e⟩ := List.getElem_of_mem hpm
      exact (hp i p (by rw [List.getElem?_eq_getElem hi, e])).2
end Go.Proofs.Ytiiibhdohlpodaa
