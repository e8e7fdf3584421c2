/- Texts put together: what the theorem stands on. -/
import Derived.Test.YtiiibhdohlpodaaZz4
import Derived.Deep.WholeRow
import Derived.Lib.SmallJoins
import Derived.Deep.Strs
import Derived.Deep.Slices
import Derived.Deep.Fields
import Derived.ChangeSame

namespace Go.Proofs.Ytiiibhdohlpodaa
open Go.RowKit
attribute [local go_sem ↓] Go.wp_at_zero Go.wp_at_succ
def flatG {α : Type} (c : α → List Value) (L : List α) : List Value := L.flatMap c
/-- What a struct's cells are like. -/
structure Cf {α : Type} (c : α → List Value) (sz : Nat) : Prop where
  len : ∀ x, (c x).length = sz
  one : ∀ x, ∀ u ∈ c x, u.oneCell' = true
theorem flatG_append {α : Type} (c : α → List Value) (a b : List α) : flatG c (a ++ b) = flatG c a ++ flatG c b := by simp [flatG]
theorem flatG_one' {α : Type} (c : α → List Value) (a : α) : flatG c [a] = c a := by simp [flatG]
theorem flatG_get {α : Type} {c : α → List Value} {sz : Nat} (hc : Cf c sz) {L : List α} {i : Nat} {p : α} (h : L[i]? = some p) {j : Nat} (hj : j < sz) : (flatG c L)[i * sz + j]? = (c p)[j]? := by
  induction L generalizing i with
  | nil => simp at h
  | cons q L ih =>
    unfold flatG at ih ⊢
    rw [List.flatMap_cons]
    have hq := hc.len q
    cases i with
    | zero =>
      simp at h; subst h
      rw [List.getElem?_append_left (by rw [hq]; omega)]; simp
    | succ i =>
      simp at h
      rw [Nat.succ_mul, List.getElem?_append_right (by rw [hq]; omega), hq, show i * sz + sz + j - sz = i * sz + j by omega]
      exact ih h
/-- Structs lie in a row. -/
def GAt {α : Type} (c : α → List Value) (sz : Nat) (w : World) (ao : Option Addr) (L : List α) : Prop := 0 < L.length → ∃ g o, ao = some ⟨g, o, none⟩ ∧ ∀ i p, L[i]? = some p → ∀ j u, (c p)[j]? = some u → w.cell? ⟨g, o + i * sz + j, none⟩ = some u
theorem GAt.keptS {α : Type} {c : α → List Value} {sz : Nat} {S : Nat → Prop} {W w : World} {ao : Option Addr} {L : List α} (h : GAt c sz W ao L) (k : Kept S W w) (hn : ∀ a, ao = some a → 0 < L.length → ¬ S a.block) : GAt c sz w ao L := by
  intro h0
  obtain ⟨g, o, e, hr⟩ := h h0
  exact ⟨g, o, e, fun i p hi j u hu => k.cell (hr i p hi j u hu) (show ¬ S g from hn ⟨g, o, none⟩ e h0)⟩
theorem GAt.kept {α : Type} {c : α → List Value} {sz : Nat} {W w : World} {ao : Option Addr} {L : List α} (h : GAt c sz W ao L) (k : Kept (fun _ => False) W w) : GAt c sz w ao L := h.keptS k (fun _ _ _ x => x)
/-- A row of structs that was made behind the world W. -/
structure MineG {α : Type} (c : α → List Value) (sz : Nat) (E : TypeId) (W w : World) (v : Value) (L : List α) : Prop where
  own : w.ownsRow W.heap.size E sz v L.length (flatG c L)
  kept : Kept (fun _ => False) W w
theorem MineG.nil {α : Type} {c : α → List Value} {sz : Nat} {E : TypeId} {W w : World} (k : Kept (fun _ => False) W w) : MineG c sz E W w (.slice none 0 0) [] := ⟨World.ownsRow_nil _ _ _ _, k⟩
theorem MineG.on {α : Type} {c : α → List Value} {sz : Nat} {E : TypeId} {W w w' : World} {v : Value} {L : List α} (h : MineG c sz E W w v L) (hk : Kept (fun _ => False) w w') : MineG c sz E W w' v L := ⟨hk.owns h.own (fun _ _ x => x), h.kept.trans hk⟩
theorem MineG.keptS {α : Type} {c : α → List Value} {sz : Nat} {E : TypeId} {S : Nat → Prop} {W w w' : World} {v : Value} {L : List α} (h : MineG c sz E W w v L) (hk : Kept S w w') (hn : ∀ k, v.ownBlock = some k → ¬ S k) (hs : ∀ k, S k → W.heap.size ≤ k) : MineG c sz E W w' v L := ⟨hk.owns h.own hn, h.kept.newer hk hs⟩
theorem MineG.slice {α : Type} {c : α → List Value} {sz : Nat} {E : TypeId} {W w : World} {v : Value} {L : List α} (h : MineG c sz E W w v L) : ∃ a cp, v = .slice a L.length cp := ownsRow_slice h.own
theorem MineG.at_ {α : Type} {c : α → List Value} {sz : Nat} (hcf : Cf c sz) {E : TypeId} {W w : World} {a : Option Addr} {n cp : Nat} {L : List α} (h : MineG c sz E W w (.slice a n cp) L) : GAt c sz w a L := by
  intro h0
  rcases h.own.2 with ⟨_, e⟩ | ⟨g, cap, cur, e, _⟩
  · omega
  · injection e with e1 e2 e3
    subst e1
    refine ⟨g, 0, rfl, fun i p hi j u hu => ?_⟩
    have hj : j < sz := by have := (List.getElem?_eq_some_iff.1 hu).1; rwa [hcf.len] at this
    have hc := h.own.cells (g := g) rfl
    have := hc (i * sz + j) u (by rw [flatG_get hcf hi hj]; exact hu)
    rw [addr_add0] at this
    rw [Nat.zero_add]; exact this
theorem src_oneG {α : Type} {c : α → List Value} {sz : Nat} (hc : Cf c sz) {P : Program} {t E : TypeId} (ht : P.underlying t = some (.slice E)) (w : World) (p : α) : Src P sz t (.slice (some ⟨w.heap.size, 0, none⟩) 1 1) 1 (c p) (w.alloc (.cells (c p).toArray E)) :=
  Src.ofSlice _ ht _ 1 1 (c p) (by rw [hc.len, Nat.one_mul]) (World.news_of_block (cs := (c p).toArray) (t := E) (fr := (0, 0)) (heap_alloc_new w _)) (hc.one p)
theorem wpList_mineG {α : Type} {c : α → List Value} {sz : Nat} {P : Program} {ops : Array Oper} {rest : List Oper} {o : Oper} {a : Act} {Q : Exit → Act → World → Prop} {w : World} (hgd : o.guard = none) (s x : Operand) {t E : TypeId}
    (ho : o.op = .call { callee := .builtin .append, args := #[s, x], argTypes := #[t, t] })
    (ht : P.underlying t = some (.slice E)) {i : TypeInfo} {z : Value} {by' : Nat} (hi : P.info? E = some i) (hz0 : i.zero = some z) (hz1 : i.size = sz) (hz2 : i.bytes = by') (hz3 : z.cells.size = sz)
    (W : World) (v : Value) (L : List α) (hv : a.eval s = v) (hm : MineG c sz E W w v L)
    (y : Value) (M : List α) (m : Nat) (hmm : M.length = m) (hy : a.eval x = y) (hs : Src P sz t y m (flatG c M) w)
    (hl : L.length + m ≤ 1000000000) (hby : by' ≤ 100000)
    (h : ∀ v' w', MineG c sz E W w' v' (L ++ M) → Kept (fun k => v.ownBlock = some k) w w' → (v'.ownBlock = v.ownBlock ∨ v'.ownBlock = some w.heap.size) → wpList P ops Q rest (a.put o.dst v') w') : wpList P ops Q (o :: rest) a w := by
  have hb : (L.length + m) * by' ≤ 1000000000 * 100000 := Nat.mul_le_mul hl hby
  refine wpList_append_src w hgd s x _ _ ho W.heap.size E i z sz by' ht hi hz0 hz1 hz2 hz3 v L.length (flatG c L) hv hm.own y m (flatG c M) hy hs (by unfold maxLen; omega) (by omega) hm.kept.size ?_
  intro v' w' hown hg _ hat
  refine h v' w' ⟨?_, ?_⟩ ((Kept.refl (fun k => v.ownBlock = some k) w).grown hg (fun k e _ => e)) hat
  · rw [List.length_append, flatG_append, hmm]
    exact hown
  · exact hm.kept.grown hg (fun k e hlt => by have := (ownsRow_lt hm.own e).2; omega)
end Go.Proofs.Ytiiibhdohlpodaa

namespace Go.Proofs.Ytiiibhdohlpodaa
open Go.ChangeShapes Go.WideShapes Go.ChangeAt Go.Deep Go.RowKit
/-- A point and where its parts lie. -/
structure PtV where
  x : Pnt
  aa : Option Addr
  pa : Option Addr
  na : Option Addr
  ac : Nat
  pc : Nat
  nc : Nat
def PtV.av (p : PtV) : Value := .slice p.aa p.x.L.length p.ac
def PtV.pv (p : PtV) : Value := .slice p.pa p.x.h.pl.length p.pc
def PtV.nv (p : PtV) : Value := .slice p.na p.x.h.nl.length p.nc
def PtV.cs (p : PtV) : Array Value := pntC p.x p.av p.pv p.nv
def cellsPt (p : PtV) : List Value := p.cs.toList
theorem cfPt : Cf cellsPt 17 := ⟨fun _ => rfl, fun p u hu => by
  simp only [cellsPt, PtV.cs, pntC, PtV.av, PtV.pv, PtV.nv, List.mem_cons, List.not_mem_nil, or_false] at hu
  rcases hu with rfl | rfl | rfl | rfl | rfl | rfl | rfl | rfl | rfl | rfl | rfl | rfl | rfl | rfl | rfl | rfl | rfl <;> rfl⟩
def PtV.At (w : World) (p : PtV) : Prop := PntAt w p.x p.aa p.ac p.pv p.nv
theorem PtV.At.on {w w' : World} {p : PtV} (h : p.At w) (k : Kept (fun _ => False) w w') : p.At w' := PntAt.on h k
/-- What the types bound. -/
def PtV.ok (p : PtV) : Prop := p.x.ok ∧ p.x.L.length ≤ 9223372036854775807
set_option maxRecDepth 100000 in
theorem pnt_trod {H : Type} {enc : TypeId × Value → H} {W : World} {sp : Nat} {c0 c1 c2 c3 c4 c5 c6 c7 c8 c9 d0 d1 d2 d3 d4 d5 d6 : Value} {d : DataW H} {p : List MemPlace} (h : DataW.Trod enc Try.prog W sp (fun _ => true) true 37 (.agg #[c0, c1, c2, c3, c4, c5, c6, c7, c8, c9, d0, d1, d2, d3, d4, d5, d6]) d p) :
    ∃ (x : Pnt) (aa pa na : Option Addr) (ac pc nc : Nat), .agg #[c0, c1, c2, c3, c4, c5, c6, c7, c8, c9, d0, d1, d2, d3, d4, d5, d6] = pntV x (.slice aa x.L.length ac) (.slice pa x.h.pl.length pc) (.slice na x.h.nl.length nc) ∧ PntAt W x aa ac (.slice pa x.h.pl.length pc) (.slice na x.h.nl.length nc) ∧ x.ok ∧ x.L.length ≤ 9223372036854775807 := by
  obtain ⟨fuel, hf⟩ := h
  obtain ⟨y0, y1, y2, y3, y4, y5, y6, y7, y8, y9, y10, y11, n, g0, g1, g2, g3, g4, g5, g6, g7, g8, g9, g10, g11⟩ := trod_struct12 Try.underlying37 (cs := [c0, c1, c2, c3, c4, c5, c6, c7, c8, c9, d0, d1, d2, d3, d4, d5, d6]) (by simpa [Value.cells] using hf)
  have ks : Try.prog.cellsOf 9 = 1 := by kernel_rfl
  have kp : Try.prog.cellsOf 35 = 1 := by kernel_rfl
  have k0 : Try.prog.cellsOf 3 = 1 := by kernel_rfl
  have kb : Try.prog.cellsOf 4 = 1 := by kernel_rfl
  have k1 : Try.prog.cellsOf 25 = 1 := by kernel_rfl
  have k6 : Try.prog.cellsOf 30 = 6 := by kernel_rfl
  simp only [ks, kp, k0, kb, k1, k6, List.drop_zero, List.drop_succ_cons, List.take_succ_cons, List.take_zero] at g0 g1 g2 g3 g4 g5 g6 g7 g8 g9 g10 g11
  obtain ⟨nm, e0, _, _⟩ := DataW.trod_string Try.underlying9 g0
  obtain ⟨aa, al, ac, e1⟩ := Go.Joins.slice_form Try.underlying35 g1
  injection e0 with e0 _
  injection e1 with e1 _
  subst e0 e1
  obtain ⟨a2, rfl, w2⟩ := trod_i64 Try.underlying3 g2
  obtain ⟨a3, rfl, w3⟩ := trod_i64 Try.underlying3 g3
  obtain ⟨b4, e4, _⟩ := DataW.trod_bool Try.underlying4 g4
  injection e4 with e4 _
  subst e4
  obtain ⟨a5, rfl, w5⟩ := trod_i64 Try.underlying3 g5
  obtain ⟨a6, rfl, w6⟩ := trod_i64 Try.underlying3 g6
  obtain ⟨a7, rfl, w7⟩ := trod_i64 Try.underlying3 g7
  obtain ⟨a8, rfl, w8⟩ := trod_i64 Try.underlying25 g8
  obtain ⟨a9, rfl, w9⟩ := trod_i64 Try.underlying25 g9
  obtain ⟨hh, eh, hat, hok⟩ := hist_cells g10
  obtain ⟨a11, rfl, w11⟩ := trod_i64 Try.underlying3 g11
  simp only [List.cons.injEq, and_true, true_and] at eh
  obtain ⟨rfl, rfl, rfl, rfl⟩ := eh
  obtain ⟨L, hL, hps, hc, hm⟩ := pairs_of (d := y1.1) (p := y1.2) ⟨n, by simpa [Value.cells] using g1⟩
  subst hL
  obtain ⟨⟨pa, pc, rfl⟩, na, nc, rfl⟩ := hat.sl
  exact ⟨⟨nm, L, a2, a3, b4, a5, a6, a7, a8, a9, hh, a11⟩, aa, pa, na, ac, pc, nc, rfl, ⟨hps.at_, hc, hat⟩, ⟨bd_i64 w2, bd_i64 w3, bd_i64 w5, bd_i64 w6, bd_i64 w7, bd_u64 w8, bd_u64 w9, hok, bd_i64 w11⟩, hm⟩
set_option maxRecDepth 100000 in
theorem pnt_cells {H : Type} {enc : TypeId × Value → H} {W : World} {sp fuel : Nat} {c0 c1 c2 c3 c4 c5 c6 c7 c8 c9 d0 d1 d2 d3 d4 d5 d6 : Value} {y : DataW H × List MemPlace} (hf : DataW.trod enc Try.prog W sp (fun _ => true) true fuel 37 [c0, c1, c2, c3, c4, c5, c6, c7, c8, c9, d0, d1, d2, d3, d4, d5, d6] = some y) :
    ∃ p : PtV, [c0, c1, c2, c3, c4, c5, c6, c7, c8, c9, d0, d1, d2, d3, d4, d5, d6] = cellsPt p ∧ p.At W ∧ p.ok := by
  have h : DataW.Trod enc Try.prog W sp (fun _ => true) true 37 (.agg #[c0, c1, c2, c3, c4, c5, c6, c7, c8, c9, d0, d1, d2, d3, d4, d5, d6]) y.1 y.2 := ⟨fuel, by simpa [Value.cells] using hf⟩
  obtain ⟨x, aa, pa, na, ac, pc, nc, e, hp, hok, hl⟩ := pnt_trod h
  refine ⟨⟨x, aa, pa, na, ac, pc, nc⟩, ?_, hp, hok, hl⟩
  injection e with e
  have := congrArg Array.toList e
  simpa [cellsPt, PtV.cs, PtV.av, PtV.pv, PtV.nv] using this
/-- Points that came in. -/
structure PtsIn (W : World) (ao : Option Addr) (L : List PtV) : Prop where
  at_ : GAt cellsPt 17 W ao L
  each : ∀ p ∈ L, p.At W ∧ p.ok
set_option maxRecDepth 100000 in
theorem pts_of {H : Type} {enc : TypeId × Value → H} {W : World} {sp : Nat} {a : Option Addr} {len cap : Nat} {d : DataW H} {p : List MemPlace}
    (h : DataW.Trod enc Try.prog W sp (fun _ => true) true 22 (.slice a len cap) d p) : ∃ L : List PtV, L.length = len ∧ PtsIn W a L ∧ len ≤ cap ∧ len ≤ 9223372036854775807 := by
  obtain ⟨fuel, hf⟩ := h
  have k6 : Try.prog.cellsOf 37 = 17 := by kernel_rfl
  rcases open_slice Try.underlying22 hf with ⟨hcs, _⟩ | ⟨x, l, c, m, n, D, Pl, hcs, _, hl, hm, hmm, _, hi⟩
  · simp [Value.cells] at hcs
    obtain ⟨rfl, rfl, rfl⟩ := hcs
    exact ⟨[], rfl, ⟨fun h => absurd h (by simp), fun p hp => (by cases hp)⟩, Nat.le_refl _, by omega⟩
  · simp [Value.cells] at hcs
    obtain ⟨rfl, rfl, rfl⟩ := hcs
    unfold maxLen at hm
    rcases Nat.eq_zero_or_pos len with h0 | h0
    · subst h0
      exact ⟨[], rfl, ⟨fun h => absurd h (by simp), fun p hp => (by cases hp)⟩, by omega, by omega⟩
    · have key0 : ∀ i, i < len → ∃ q : PtV, (∀ j u, (cellsPt q)[j]? = some u → W.cell? (x.add (i * 17 + j)) = some u) ∧ q.At W ∧ q.ok := by
        intro i hi'
        obtain ⟨cs', hc, ht'⟩ := hi i (by simp at hmm; omega)
        rw [k6] at hc
        obtain ⟨hlen, hcl, hat⟩ := World.cells?_some hc
        match cs', hcl with
        | [c0, c1, c2, c3, c4, c5, c6, c7, c8, c9, d0, d1, d2, d3, d4, d5, d6], _ =>
          obtain ⟨q, e, hq⟩ := pnt_cells ht'
          refine ⟨q, fun j u hj => ?_, hq⟩
          rw [← e] at hj
          have hj2 : j < 17 := by
            have := (List.getElem?_eq_some_iff.1 hj).1
            simpa using this
          have := hat j hj2
          rw [Go.Deep.add_add] at this
          rw [this]
          exact hj
      obtain ⟨g, o, spot⟩ := x
      have hspot : spot = Option.none := by
        obtain ⟨q, hq, _⟩ := key0 0 h0
        have c0 := hq 0 _ rfl
        simpa [Addr.add] using World.cell?_spot c0
      subst hspot
      have key : ∀ i, i < len → ∃ q : PtV, (∀ j u, (cellsPt q)[j]? = some u → W.cell? ⟨g, o + i * 17 + j, none⟩ = some u) ∧ q.At W ∧ q.ok := by
        intro i hi'
        obtain ⟨q, hq, h1⟩ := key0 i hi'
        refine ⟨q, fun j u hj => ?_, h1⟩
        have := hq j u hj
        rwa [Go.WideShapes.add_plain, ← Nat.add_assoc] at this
      obtain ⟨rs, hrs, hp⟩ := choose_list key
      refine ⟨rs, hrs, ⟨fun _ => ⟨g, o, rfl, fun i p hi => (hp i p hi).1⟩, fun p hpm => ?_⟩, hl, by omega⟩
      obtain ⟨i, hi, e⟩ := List.getElem_of_mem hpm
      exact (hp i p (by rw [List.getElem?_eq_getElem hi, e])).2
end Go.Proofs.Ytiiibhdohlpodaa

namespace Go.Proofs.Ytiiibhdohlpodaa
open Go.RowKit
/-- A state. -/
structure StV where
  some : Bool
  start : Int
  time : Int
  whole : Int
  re : Int
  im : Int
  h : HistV
/-- A state's cells. -/
def stC (s : StV) (pv nv : Value) : Array Value := #[.bool s.some, .int .i64 s.start, .int .i64 s.time, .int .i64 s.whole, .int .u64 s.re, .int .u64 s.im,
  .int .i64 s.h.sc, .int .u64 (s.h.ze : Int), .int .i64 s.h.po, pv, .int .i64 s.h.no, nv]
def zeroHV : HistV := ⟨0, 0, 0, [], 0, []⟩
def zeroSt : StV := ⟨false, 0, 0, 0, 0, 0, zeroHV⟩
def zeroPt : Pnt := ⟨{ data := #[] }, [], 0, 0, false, 0, 0, 0, 0, 0, zeroHV, 0⟩
/-- What is wrong with a point's times behind a state's. -/
def lateI (s : StV) (x : Pnt) : Int := if x.time ≤ s.time then 9 else if x.start < s.start ∨ (s.start < x.start ∧ x.start < s.time) then 10 else 0
/-- The flags of an epoch that begins. -/
def movedI (s : StV) (x : Pnt) : Int := if s.some = false then 1 else if x.start ≤ s.start then 0 else if x.start ≤ s.time then 2 else 10
/-- A whole sum less a state's. -/
def lessW (s : StV) (x : Pnt) : Pnt :=
  if x.mono = true ∧ x.whole < s.whole then { x with flags := 4 } else
  if decide (IntKind.i64.wrap (x.whole - s.whole) < x.whole) ≠ decide (0 < s.whole) then { x with flags := 16 } else { x with whole := IntKind.i64.wrap (x.whole - s.whole) }
/-- Why a point isn't taken. -/
def takenE (x : Pnt) (temp : Int) : Nat := if chk x ≠ 0 then chk x else if x.temp ≠ temp then 14 else if x.flags ≠ 0 then 3 else 0
/-- Why a point makes nothing of a state. -/
def stepE (s : StV) (x : Pnt) : Int := if takenE x 1 ≠ 0 then (takenE x 1 : Int) else if s.some = true then lateI s x else 0
/-- The state behind a point. -/
def stOf (x : Pnt) : StV := ⟨true, x.start, x.time, x.whole, x.re, x.im, x.h⟩
/-- What comes of a point of whole sums. -/
def outW (s : StV) (x : Pnt) : Pnt :=
  if movedI s x = 0 then lessW s { x with temp := 2, flags := 0, start := s.time } else { x with temp := 2, flags := movedI s x }
/-- The points that are taken, each with what comes of it. -/
def playW : StV → List Pnt → List (Pnt × Pnt)
  | _, [] => []
  | s, x :: l => if stepE s x = 0 then (x, outW s x) :: playW (stOf x) l else playW s l
/-- The state behind points. -/
def stW : StV → List Pnt → StV
  | s, [] => s
  | s, x :: l => if stepE s x = 0 then stW (stOf x) l else stW s l
end Go.Proofs.Ytiiibhdohlpodaa

namespace Go.Proofs.Ytiiibhdohlpodaa
open Go.RowKit
attribute [local go_sem ↓] Go.wp_at_zero Go.wp_at_succ
theorem late_any (s : StV) (sp sn : Value) (x : Pnt) (av pv nv : Value) (w : World) : Calls Try.prog 61 #[.agg (stC s sp sn), .agg (pntC x av pv nv)] w fun e w' => e = .returned (.int .i64 (lateI s x)) ∧ Kept (fun _ => False) w w' := by
  obtain ⟨q, hq⟩ : ∃ q, q = w.heap.size := ⟨_, rfl⟩
  obtain ⟨CS, hCS⟩ : ∃ a, a = stC s sp sn := ⟨_, rfl⟩
  obtain ⟨CX, hCX⟩ : ∃ a, a = pntC x av pv nv := ⟨_, rfl⟩
  rw [← hCS, ← hCX]
  obtain ⟨w2, hw2⟩ : ∃ w2, w2 = (w.alloc (.cells CS 32)).alloc (.cells CX 37) := ⟨_, rfl⟩
  have k2 : Kept (fun _ => False) w w2 := by rw [hw2]; exact ((Kept.refl _ _).alloc _).alloc _
  have hb1 : w2.heap[q]? = some (.cells CS 32 (0, 0)) := by rw [hw2, hq]; exact ((Kept.refl (fun _ => False) _).alloc _).same (heap_alloc_new w _) (fun x => x)
  have hb2 : w2.heap[q + 1]? = some (.cells CX 37 (0, 0)) := by rw [hw2, hq]; exact box_second2 w _ _
  have s1 : w2.cell? ⟨q, 1, none⟩ = some (.int .i64 s.start) := cell_rowZ 1 _ hb1 (by rw [hCS]; rfl)
  have s2 : w2.cell? ⟨q, 2, none⟩ = some (.int .i64 s.time) := cell_rowZ 2 _ hb1 (by rw [hCS]; rfl)
  have p5 : w2.cell? ⟨q + 1, 5, none⟩ = some (.int .i64 x.start) := cell_rowZ 5 _ hb2 (by rw [hCX]; rfl)
  have p6 : w2.cell? ⟨q + 1, 6, none⟩ = some (.int .i64 x.time) := cell_rowZ 6 _ hb2 (by rw [hCX]; rfl)
  have HK2 := Lib.hid k2
  have HW2 := Lib.hid (And.intro hw2 hq)
  clear hCS hCX k2 hb1 hb2 hw2 hq
  unfold lateI
  by_cases h1 : x.time ≤ s.time
  · rw [if_pos h1]
    have q1 : decide (x.time ≤ s.time) = true := decide_eq_true (h1)
    clear h1
    go_enter Try.func61, Try.ntmps61
    go_upto_region 1 with fail
    rw [← HW2.out.1, ← HW2.out.2]
    go_wp2
    go_ret
    exact ⟨rfl, HK2.out⟩
  rw [if_neg h1]
  have q1 : decide (x.time ≤ s.time) = false := decide_eq_false (h1)
  by_cases h2 : x.start < s.start
  · rw [if_pos (Or.inl h2)]
    have q2 : decide (x.start < s.start) = true := decide_eq_true (h2)
    clear h1 h2
    go_enter Try.func61, Try.ntmps61
    go_upto_region 1 with fail
    rw [← HW2.out.1, ← HW2.out.2]
    go_wp2
    go_ret
    exact ⟨rfl, HK2.out⟩
  have q2 : decide (x.start < s.start) = false := decide_eq_false (h2)
  by_cases h3 : s.start < x.start
  · have q3 : decide (s.start < x.start) = true := decide_eq_true h3
    by_cases h4 : x.start < s.time
    · rw [if_pos (Or.inr ⟨h3, h4⟩)]
      have q4 : decide (x.start < s.time) = true := decide_eq_true (h4)
      clear h1 h2 h3 h4
      go_enter Try.func61, Try.ntmps61
      go_upto_region 1 with fail
      rw [← HW2.out.1, ← HW2.out.2]
      go_wp2
      go_ret
      exact ⟨rfl, HK2.out⟩
    · rw [if_neg (by omega)]
      have q4 : decide (x.start < s.time) = false := decide_eq_false (h4)
      clear h1 h2 h3 h4
      go_enter Try.func61, Try.ntmps61
      go_upto_region 1 with fail
      rw [← HW2.out.1, ← HW2.out.2]
      go_wp2
      go_ret
      exact ⟨rfl, HK2.out⟩
  · rw [if_neg (by omega)]
    have q3 : decide (s.start < x.start) = false := decide_eq_false (h3)
    clear h1 h2 h3
    go_enter Try.func61, Try.ntmps61
    go_upto_region 1 with fail
    rw [← HW2.out.1, ← HW2.out.2]
    go_wp2
    go_ret
    exact ⟨rfl, HK2.out⟩
theorem moved_any (s : StV) (sp sn : Value) (x : Pnt) (av pv nv : Value) (w : World) : Calls Try.prog 63 #[.agg (stC s sp sn), .agg (pntC x av pv nv)] w fun e w' => e = .returned (.int .i64 (movedI s x)) ∧ Kept (fun _ => False) w w' := by
  obtain ⟨q, hq⟩ : ∃ q, q = w.heap.size := ⟨_, rfl⟩
  obtain ⟨CS, hCS⟩ : ∃ a, a = stC s sp sn := ⟨_, rfl⟩
  obtain ⟨CX, hCX⟩ : ∃ a, a = pntC x av pv nv := ⟨_, rfl⟩
  rw [← hCS, ← hCX]
  obtain ⟨w2, hw2⟩ : ∃ w2, w2 = (w.alloc (.cells CS 32)).alloc (.cells CX 37) := ⟨_, rfl⟩
  have k2 : Kept (fun _ => False) w w2 := by rw [hw2]; exact ((Kept.refl _ _).alloc _).alloc _
  have hb1 : w2.heap[q]? = some (.cells CS 32 (0, 0)) := by rw [hw2, hq]; exact ((Kept.refl (fun _ => False) _).alloc _).same (heap_alloc_new w _) (fun x => x)
  have hb2 : w2.heap[q + 1]? = some (.cells CX 37 (0, 0)) := by rw [hw2, hq]; exact box_second2 w _ _
  have s0 : w2.cell? ⟨q, 0, none⟩ = some (.bool s.some) := cell_rowZ 0 _ hb1 (by rw [hCS]; rfl)
  have s1 : w2.cell? ⟨q, 1, none⟩ = some (.int .i64 s.start) := cell_rowZ 1 _ hb1 (by rw [hCS]; rfl)
  have s2 : w2.cell? ⟨q, 2, none⟩ = some (.int .i64 s.time) := cell_rowZ 2 _ hb1 (by rw [hCS]; rfl)
  have p5 : w2.cell? ⟨q + 1, 5, none⟩ = some (.int .i64 x.start) := cell_rowZ 5 _ hb2 (by rw [hCX]; rfl)
  have HK2 := Lib.hid k2
  have HW2 := Lib.hid (And.intro hw2 hq)
  clear hCS hCX k2 hb1 hb2 hw2 hq
  unfold movedI
  by_cases h0 : s.some = false
  · rw [if_pos h0]
    rw [h0] at s0
    clear h0
    go_enter Try.func63, Try.ntmps63
    go_upto_region 1 with fail
    rw [← HW2.out.1, ← HW2.out.2]
    go_wp2
    go_ret
    exact ⟨rfl, HK2.out⟩
  rw [if_neg h0]
  have h0' : s.some = true := by simpa using h0
  rw [h0'] at s0
  by_cases h1 : x.start ≤ s.start
  · rw [if_pos h1]
    have q1 : decide (x.start ≤ s.start) = true := decide_eq_true (h1)
    clear h0 h0' h1
    go_enter Try.func63, Try.ntmps63
    go_upto_region 1 with fail
    rw [← HW2.out.1, ← HW2.out.2]
    go_wp2
    go_ret
    exact ⟨rfl, HK2.out⟩
  rw [if_neg h1]
  have q1 : decide (x.start ≤ s.start) = false := decide_eq_false (h1)
  by_cases h2 : x.start ≤ s.time
  · rw [if_pos h2]
    have q2 : decide (x.start ≤ s.time) = true := decide_eq_true (h2)
    clear h0 h0' h1 h2
    go_enter Try.func63, Try.ntmps63
    go_upto_region 1 with fail
    rw [← HW2.out.1, ← HW2.out.2]
    go_wp2
    go_ret
    exact ⟨rfl, HK2.out⟩
  · rw [if_neg h2]
    have q2 : decide (x.start ≤ s.time) = false := decide_eq_false (h2)
    clear h0 h0' h1 h2
    go_enter Try.func63, Try.ntmps63
    go_upto_region 1 with fail
    rw [← HW2.out.1, ← HW2.out.2]
    go_wp2
    go_ret
    exact ⟨rfl, HK2.out⟩
/-- Three values of one cell each. -/
def Ones (av pv nv : Value) : Prop := av.oneCell' = true ∧ pv.oneCell' = true ∧ nv.oneCell' = true
theorem ones_slices (a b e : Option Addr) (n c m d k f : Nat) : Ones (.slice a n c) (.slice b m d) (.slice e k f) := ⟨rfl, rfl, rfl⟩
theorem pntC_one' {x : Pnt} {av pv nv : Value} (h : Ones av pv nv) : (pntC x av pv nv).all (·.oneCell') = true := by
  obtain ⟨h1, h2, h3⟩ := h
  rw [Array.all_eq_true_iff_forall_mem]
  intro u hu
  simp only [pntC, List.mem_toArray, List.mem_cons, List.not_mem_nil, or_false] at hu
  rcases hu with rfl | rfl | rfl | rfl | rfl | rfl | rfl | rfl | rfl | rfl | rfl | rfl | rfl | rfl | rfl | rfl | rfl <;> first | rfl | assumption
theorem heap_third (w : World) (a b c : Obj) : (((w.alloc a).alloc b).alloc c).heap[w.heap.size + 1 + 1]? = some c := by
  have := heap_alloc_new ((w.alloc a).alloc b) c
  simpa using this
set_option maxHeartbeats 4000000 in
theorem lessInt_any (s : StV) (sp sn : Value) (x : Pnt) (av pv nv : Value) (w : World) (hv : Ones av pv nv) : Calls Try.prog 85 #[.agg (stC s sp sn), .agg (pntC x av pv nv)] w fun e w' => e = .returned (.agg (pntC (lessW s x) av pv nv)) ∧ Kept (fun _ => False) w w' := by
  have HAV := Lib.hid hv
  obtain ⟨q, hq⟩ : ∃ q, q = w.heap.size := ⟨_, rfl⟩
  obtain ⟨CS, hCS⟩ : ∃ a, a = stC s sp sn := ⟨_, rfl⟩
  obtain ⟨CX, hCX⟩ : ∃ a, a = pntC x av pv nv := ⟨_, rfl⟩
  rw [← hCS, ← hCX]
  obtain ⟨w2, hw2⟩ : ∃ w2, w2 = ((w.alloc (.cells CS 32)).alloc (.cells CX 37)).alloc (.cells #[.string { data := #[] }, .slice none 0 0, .int .i64 0, .int .i64 0, .bool false, .int .i64 0, .int .i64 0, .int .i64 0, .int .u64 0, .int .u64 0, .int .i64 0, .int .u64 0, .int .i64 0, .slice none 0 0, .int .i64 0, .slice none 0 0, .int .i64 0] 37) := ⟨_, rfl⟩
  have k2 : Kept (fun _ => False) w w2 := by rw [hw2]; exact (((Kept.refl _ _).alloc _).alloc _).alloc _
  have hb1 : w2.heap[q]? = some (.cells CS 32 (0, 0)) := by rw [hw2, hq]; exact (((Kept.refl (fun _ => False) _).alloc _).alloc _).same (heap_alloc_new w _) (fun x => x)
  have hb2 : w2.heap[q + 1]? = some (.cells CX 37 (0, 0)) := by rw [hw2, hq]; exact ((Kept.refl (fun _ => False) _).alloc _).same (box_second2 w _ _) (fun x => x)
  have hb3 : w2.heap[q + 1 + 1]? = some (.cells #[.string { data := #[] }, .slice none 0 0, .int .i64 0, .int .i64 0, .bool false, .int .i64 0, .int .i64 0, .int .i64 0, .int .u64 0, .int .u64 0, .int .i64 0, .int .u64 0, .int .i64 0, .slice none 0 0, .int .i64 0, .slice none 0 0, .int .i64 0] 37 (0, 0)) := by rw [hw2, hq]; exact heap_third w _ _ _
  have s3 : w2.cell? ⟨q, 3, none⟩ = some (.int .i64 s.whole) := cell_rowZ 3 _ hb1 (by rw [hCS]; rfl)
  have p4 : w2.cell? ⟨q + 1, 4, none⟩ = some (.bool x.mono) := cell_rowZ 4 _ hb2 (by rw [hCX]; rfl)
  have p7 : w2.cell? ⟨q + 1, 7, none⟩ = some (.int .i64 x.whole) := cell_rowZ 7 _ hb2 (by rw [hCX]; rfl)
  have p16 : w2.cell? ⟨q + 1, 16, none⟩ = some (.int .i64 x.flags) := cell_rowZ 16 _ hb2 (by rw [hCX]; rfl)
  have HK2 := Lib.hid k2
  have HW2 := Lib.hid (And.intro hw2 hq)
  have HB2 := Lib.hid hb2
  have HB3 := Lib.hid hb3
  have HCX := Lib.hid hCX
  clear hCS hCX k2 hb1 hb2 hb3 hw2 hq hv
  unfold lessW
  obtain ⟨d, hd⟩ : ∃ d, d = IntKind.i64.wrap (x.whole - s.whole) := ⟨_, rfl⟩
  rw [← hd]
  have hd' := hd.symm
  clear hd
  by_cases h1 : x.mono = true ∧ x.whole < s.whole
  · rw [if_pos h1]
    have q1 : decide (x.whole < s.whole) = true := decide_eq_true h1.2
    have hm := h1.1
    rw [hm] at p4
    clear h1
    have f16 := free_of_rowZ 16 HB2.out
    go_enter Try.func85, Try.ntmps85
    go_upto_region 1 with fail
    rw [← HW2.out.1, ← HW2.out.2]
    go_upto_region 7 with fail
    obtain ⟨w3, hw3⟩ : ∃ w3, w3 = w2.setCell ⟨q + 1, 16, none⟩ (.int .i64 4) := ⟨_, rfl⟩
    have kk : Kept (fun k => k = q + 1) w2 w3 := by rw [hw3]; exact (Kept.refl (fun k => k = q + 1) w2).setCell (p := ⟨q + 1, 16, none⟩) (fun _ => rfl) _
    have hx3 : w3.heap[q + 1]? = some (.cells (CX.setIfInBounds 16 (.int .i64 4)) 37 (0, 0)) := by rw [hw3]; exact heap_setCell_same _ _ 16 _ _ _ HB2.out
    obtain ⟨NX, hNX⟩ : ∃ a, a = (CX.setIfInBounds 16 (.int .i64 4)) := ⟨_, rfl⟩
    rw [← hNX] at hx3
    have hnx : NX = pntC { x with flags := 4 } av pv nv := by rw [hNX, HCX.out]; rfl
    have HIN : Hid ((Try.prog.info? 37).map (·.size) = some NX.size) := Lib.hid (point_info.trans (by rw [hnx]; rfl))
    have HSN : Hid ((#[.string { data := #[] }, .slice none 0 0, .int .i64 0, .int .i64 0, .bool false, .int .i64 0, .int .i64 0, .int .i64 0, .int .u64 0, .int .u64 0, .int .i64 0, .int .u64 0, .int .i64 0, .slice none 0 0, .int .i64 0, .slice none 0 0, .int .i64 0] : Array Value).size = NX.size ∧ NX.all (·.oneCell') = true) := Lib.hid (by rw [hnx]; exact ⟨rfl, pntC_one' HAV.out⟩)
    have HX3 := Lib.hid hx3
    have HR3 := Lib.hid (kk.same HB3.out (by omega))
    have HK3 := Lib.hid (HK2.out.newer kk (fun i e => by have := HW2.out.2; omega))
    have HNX := Lib.hid hnx
    rw [← hw3]
    clear hw3 kk hx3 hNX hnx
    go_wp2_with (first
      | (refine wpList_load_row rfl 37 (.tmp 3) rfl (q + 1) rfl 37 _ (0, 0) _ HX3.out Try.underlying37 rfl HIN.out ?_)
      | (refine wpList_store_row rfl 37 (.tmp 4) _ rfl (q + 1 + 1) NX rfl rfl 37 _ HR3.out HIN.out HSN.out.1 HSN.out.2 ?_)
      | fail)
    refine bodyPost_ret (results_cell_row Try.results85 _ _ (q + 1 + 1) 37 _ (0, 0) _ rfl (setRow_heap _ _ _ _ _ _ HR3.out) Try.underlying37 rfl HIN.out) rfl ?_
    refine ⟨by rw [HNX.out], HK3.out.newer (setRow_keptW _ _ _) (fun i e => by have := HW2.out.2; omega)⟩
  rw [if_neg h1]
  have hq1 : (x.mono = false) ∨ (x.mono = true ∧ decide (x.whole < s.whole) = false) := by cases hm : x.mono with | false => exact Or.inl rfl | true => exact Or.inr ⟨rfl, decide_eq_false (fun h => h1 ⟨hm, h⟩)⟩
  clear h1
  obtain ⟨b2, hb2'⟩ : ∃ b, b = decide (d < x.whole) := ⟨_, rfl⟩
  obtain ⟨b3, hb3'⟩ : ∃ b, b = decide (0 < s.whole) := ⟨_, rfl⟩
  rw [← hb2', ← hb3']
  have q2 := hb2'.symm
  have q3 := hb3'.symm
  clear hb2' hb3'
  by_cases h2 : b2 ≠ b3
  · rw [if_pos h2]
    have q4 : (b2 == b3) = false := by simpa using h2
    clear h2
    rcases hq1 with hm | ⟨hm, q1⟩
    · rw [hm] at p4
      have f16 := free_of_rowZ 16 HB2.out
      go_enter Try.func85, Try.ntmps85
      go_upto_region 1 with fail
      rw [← HW2.out.1, ← HW2.out.2]
      go_upto_region 7 with fail
      obtain ⟨w3, hw3⟩ : ∃ w3, w3 = w2.setCell ⟨q + 1, 16, none⟩ (.int .i64 16) := ⟨_, rfl⟩
      have kk : Kept (fun k => k = q + 1) w2 w3 := by rw [hw3]; exact (Kept.refl (fun k => k = q + 1) w2).setCell (p := ⟨q + 1, 16, none⟩) (fun _ => rfl) _
      have hx3 : w3.heap[q + 1]? = some (.cells (CX.setIfInBounds 16 (.int .i64 16)) 37 (0, 0)) := by rw [hw3]; exact heap_setCell_same _ _ 16 _ _ _ HB2.out
      obtain ⟨NX, hNX⟩ : ∃ a, a = (CX.setIfInBounds 16 (.int .i64 16)) := ⟨_, rfl⟩
      rw [← hNX] at hx3
      have hnx : NX = pntC { x with flags := 16 } av pv nv := by rw [hNX, HCX.out]; rfl
      have HIN : Hid ((Try.prog.info? 37).map (·.size) = some NX.size) := Lib.hid (point_info.trans (by rw [hnx]; rfl))
      have HSN : Hid ((#[.string { data := #[] }, .slice none 0 0, .int .i64 0, .int .i64 0, .bool false, .int .i64 0, .int .i64 0, .int .i64 0, .int .u64 0, .int .u64 0, .int .i64 0, .int .u64 0, .int .i64 0, .slice none 0 0, .int .i64 0, .slice none 0 0, .int .i64 0] : Array Value).size = NX.size ∧ NX.all (·.oneCell') = true) := Lib.hid (by rw [hnx]; exact ⟨rfl, pntC_one' HAV.out⟩)
      have HX3 := Lib.hid hx3
      have HR3 := Lib.hid (kk.same HB3.out (by omega))
      have HK3 := Lib.hid (HK2.out.newer kk (fun i e => by have := HW2.out.2; omega))
      have HNX := Lib.hid hnx
      rw [← hw3]
      clear hw3 kk hx3 hNX hnx
      go_wp2_with (first
        | (refine wpList_load_row rfl 37 (.tmp 3) rfl (q + 1) rfl 37 _ (0, 0) _ HX3.out Try.underlying37 rfl HIN.out ?_)
        | (refine wpList_store_row rfl 37 (.tmp 4) _ rfl (q + 1 + 1) NX rfl rfl 37 _ HR3.out HIN.out HSN.out.1 HSN.out.2 ?_)
        | fail)
      refine bodyPost_ret (results_cell_row Try.results85 _ _ (q + 1 + 1) 37 _ (0, 0) _ rfl (setRow_heap _ _ _ _ _ _ HR3.out) Try.underlying37 rfl HIN.out) rfl ?_
      refine ⟨by rw [HNX.out], HK3.out.newer (setRow_keptW _ _ _) (fun i e => by have := HW2.out.2; omega)⟩
    · rw [hm] at p4
      have f16 := free_of_rowZ 16 HB2.out
      go_enter Try.func85, Try.ntmps85
      go_upto_region 1 with fail
      rw [← HW2.out.1, ← HW2.out.2]
      go_upto_region 7 with fail
      obtain ⟨w3, hw3⟩ : ∃ w3, w3 = w2.setCell ⟨q + 1, 16, none⟩ (.int .i64 16) := ⟨_, rfl⟩
      have kk : Kept (fun k => k = q + 1) w2 w3 := by rw [hw3]; exact (Kept.refl (fun k => k = q + 1) w2).setCell (p := ⟨q + 1, 16, none⟩) (fun _ => rfl) _
      have hx3 : w3.heap[q + 1]? = some (.cells (CX.setIfInBounds 16 (.int .i64 16)) 37 (0, 0)) := by rw [hw3]; exact heap_setCell_same _ _ 16 _ _ _ HB2.out
      obtain ⟨NX, hNX⟩ : ∃ a, a = (CX.setIfInBounds 16 (.int .i64 16)) := ⟨_, rfl⟩
      rw [← hNX] at hx3
      have hnx : NX = pntC { x with flags := 16 } av pv nv := by rw [hNX, HCX.out]; rfl
      have HIN : Hid ((Try.prog.info? 37).map (·.size) = some NX.size) := Lib.hid (point_info.trans (by rw [hnx]; rfl))
      have HSN : Hid ((#[.string { data := #[] }, .slice none 0 0, .int .i64 0, .int .i64 0, .bool false, .int .i64 0, .int .i64 0, .int .i64 0, .int .u64 0, .int .u64 0, .int .i64 0, .int .u64 0, .int .i64 0, .slice none 0 0, .int .i64 0, .slice none 0 0, .int .i64 0] : Array Value).size = NX.size ∧ NX.all (·.oneCell') = true) := Lib.hid (by rw [hnx]; exact ⟨rfl, pntC_one' HAV.out⟩)
      have HX3 := Lib.hid hx3
      have HR3 := Lib.hid (kk.same HB3.out (by omega))
      have HK3 := Lib.hid (HK2.out.newer kk (fun i e => by have := HW2.out.2; omega))
      have HNX := Lib.hid hnx
      rw [← hw3]
      clear hw3 kk hx3 hNX hnx
      go_wp2_with (first
        | (refine wpList_load_row rfl 37 (.tmp 3) rfl (q + 1) rfl 37 _ (0, 0) _ HX3.out Try.underlying37 rfl HIN.out ?_)
        | (refine wpList_store_row rfl 37 (.tmp 4) _ rfl (q + 1 + 1) NX rfl rfl 37 _ HR3.out HIN.out HSN.out.1 HSN.out.2 ?_)
        | fail)
      refine bodyPost_ret (results_cell_row Try.results85 _ _ (q + 1 + 1) 37 _ (0, 0) _ rfl (setRow_heap _ _ _ _ _ _ HR3.out) Try.underlying37 rfl HIN.out) rfl ?_
      refine ⟨by rw [HNX.out], HK3.out.newer (setRow_keptW _ _ _) (fun i e => by have := HW2.out.2; omega)⟩
  · rw [if_neg h2]
    have q4 : (b2 == b3) = true := by simpa using h2
    clear h2
    rcases hq1 with hm | ⟨hm, q1⟩
    · rw [hm] at p4
      have f7 := free_of_rowZ 7 HB2.out
      go_enter Try.func85, Try.ntmps85
      go_upto_region 1 with fail
      rw [← HW2.out.1, ← HW2.out.2]
      go_upto_region 7 with fail
      obtain ⟨w3, hw3⟩ : ∃ w3, w3 = w2.setCell ⟨q + 1, 7, none⟩ (.int .i64 d) := ⟨_, rfl⟩
      have kk : Kept (fun k => k = q + 1) w2 w3 := by rw [hw3]; exact (Kept.refl (fun k => k = q + 1) w2).setCell (p := ⟨q + 1, 7, none⟩) (fun _ => rfl) _
      have hx3 : w3.heap[q + 1]? = some (.cells (CX.setIfInBounds 7 (.int .i64 d)) 37 (0, 0)) := by rw [hw3]; exact heap_setCell_same _ _ 7 _ _ _ HB2.out
      obtain ⟨NX, hNX⟩ : ∃ a, a = (CX.setIfInBounds 7 (.int .i64 d)) := ⟨_, rfl⟩
      rw [← hNX] at hx3
      have hnx : NX = pntC { x with whole := d } av pv nv := by rw [hNX, HCX.out]; rfl
      have HIN : Hid ((Try.prog.info? 37).map (·.size) = some NX.size) := Lib.hid (point_info.trans (by rw [hnx]; rfl))
      have HSN : Hid ((#[.string { data := #[] }, .slice none 0 0, .int .i64 0, .int .i64 0, .bool false, .int .i64 0, .int .i64 0, .int .i64 0, .int .u64 0, .int .u64 0, .int .i64 0, .int .u64 0, .int .i64 0, .slice none 0 0, .int .i64 0, .slice none 0 0, .int .i64 0] : Array Value).size = NX.size ∧ NX.all (·.oneCell') = true) := Lib.hid (by rw [hnx]; exact ⟨rfl, pntC_one' HAV.out⟩)
      have HX3 := Lib.hid hx3
      have HR3 := Lib.hid (kk.same HB3.out (by omega))
      have HK3 := Lib.hid (HK2.out.newer kk (fun i e => by have := HW2.out.2; omega))
      have HNX := Lib.hid hnx
      rw [← hw3]
      clear hw3 kk hx3 hNX hnx
      go_wp2_with (first
        | (refine wpList_load_row rfl 37 (.tmp 3) rfl (q + 1) rfl 37 _ (0, 0) _ HX3.out Try.underlying37 rfl HIN.out ?_)
        | (refine wpList_store_row rfl 37 (.tmp 4) _ rfl (q + 1 + 1) NX rfl rfl 37 _ HR3.out HIN.out HSN.out.1 HSN.out.2 ?_)
        | fail)
      refine bodyPost_ret (results_cell_row Try.results85 _ _ (q + 1 + 1) 37 _ (0, 0) _ rfl (setRow_heap _ _ _ _ _ _ HR3.out) Try.underlying37 rfl HIN.out) rfl ?_
      refine ⟨by rw [HNX.out], HK3.out.newer (setRow_keptW _ _ _) (fun i e => by have := HW2.out.2; omega)⟩
    · rw [hm] at p4
      have f7 := free_of_rowZ 7 HB2.out
      go_enter Try.func85, Try.ntmps85
      go_upto_region 1 with fail
      rw [← HW2.out.1, ← HW2.out.2]
      go_upto_region 7 with fail
      obtain ⟨w3, hw3⟩ : ∃ w3, w3 = w2.setCell ⟨q + 1, 7, none⟩ (.int .i64 d) := ⟨_, rfl⟩
      have kk : Kept (fun k => k = q + 1) w2 w3 := by rw [hw3]; exact (Kept.refl (fun k => k = q + 1) w2).setCell (p := ⟨q + 1, 7, none⟩) (fun _ => rfl) _
      have hx3 : w3.heap[q + 1]? = some (.cells (CX.setIfInBounds 7 (.int .i64 d)) 37 (0, 0)) := by rw [hw3]; exact heap_setCell_same _ _ 7 _ _ _ HB2.out
      obtain ⟨NX, hNX⟩ : ∃ a, a = (CX.setIfInBounds 7 (.int .i64 d)) := ⟨_, rfl⟩
      rw [← hNX] at hx3
      have hnx : NX = pntC { x with whole := d } av pv nv := by rw [hNX, HCX.out]; rfl
      have HIN : Hid ((Try.prog.info? 37).map (·.size) = some NX.size) := Lib.hid (point_info.trans (by rw [hnx]; rfl))
      have HSN : Hid ((#[.string { data := #[] }, .slice none 0 0, .int .i64 0, .int .i64 0, .bool false, .int .i64 0, .int .i64 0, .int .i64 0, .int .u64 0, .int .u64 0, .int .i64 0, .int .u64 0, .int .i64 0, .slice none 0 0, .int .i64 0, .slice none 0 0, .int .i64 0] : Array Value).size = NX.size ∧ NX.all (·.oneCell') = true) := Lib.hid (by rw [hnx]; exact ⟨rfl, pntC_one' HAV.out⟩)
      have HX3 := Lib.hid hx3
      have HR3 := Lib.hid (kk.same HB3.out (by omega))
      have HK3 := Lib.hid (HK2.out.newer kk (fun i e => by have := HW2.out.2; omega))
      have HNX := Lib.hid hnx
      rw [← hw3]
      clear hw3 kk hx3 hNX hnx
      go_wp2_with (first
        | (refine wpList_load_row rfl 37 (.tmp 3) rfl (q + 1) rfl 37 _ (0, 0) _ HX3.out Try.underlying37 rfl HIN.out ?_)
        | (refine wpList_store_row rfl 37 (.tmp 4) _ rfl (q + 1 + 1) NX rfl rfl 37 _ HR3.out HIN.out HSN.out.1 HSN.out.2 ?_)
        | fail)
      refine bodyPost_ret (results_cell_row Try.results85 _ _ (q + 1 + 1) 37 _ (0, 0) _ rfl (setRow_heap _ _ _ _ _ _ HR3.out) Try.underlying37 rfl HIN.out) rfl ?_
      refine ⟨by rw [HNX.out], HK3.out.newer (setRow_keptW _ _ _) (fun i e => by have := HW2.out.2; omega)⟩
end Go.Proofs.Ytiiibhdohlpodaa

namespace Go.Proofs.Ytiiibhdohlpodaa
open Go.RowKit
attribute [local go_sem ↓] Go.wp_at_zero Go.wp_at_succ
theorem step_store_row {P : Program} {ops : Array Oper} {o : Oper} {a : Act} {w : World} {K : Act → World → Prop} {Q : Exit → Act → World → Prop} {E : Prop} (hgd : o.guard = none) (ty : TypeId) (x y : Operand) (ho : o.op = .store ty x y)
    (g : Nat) (cells : Array Value) (hx : a.eval x = .pointer (some ⟨g, 0, none⟩)) (hy : a.eval y = .agg cells) (t : TypeId) (old : Array Value) (hg : w.heap[g]? = some (.cells old t (0, 0))) (hi : (P.info? ty).map (·.size) = some cells.size)
    (hold : old.size = cells.size) (h1 : cells.all (·.oneCell') = true) (h : K (a.put o.dst undef) (w.setRow g cells)) : if Region.wanted o (yielded ops a.tmps) = true then Oper.wp P o a w K Q else E := by
  rw [if_pos (by simp [Region.wanted, hgd])]
  exact wp_store_row ty x y ho g cells hx hy t old hg hi hold h1 h
/-- A whole value is stored into a box that was just made. -/
theorem wpList_store_box {P : Program} {ops : Array Oper} {rest : List Oper} {o : Oper} {a : Act} {w : World} {Q : Exit → Act → World → Prop} (hgd : o.guard = none) (ty : TypeId) (x y : Operand) (ho : o.op = .store ty x y)
    (w0 : World) (old cells : Array Value) (t : TypeId) (hw : w = w0.alloc (.cells old t)) (hx : a.eval x = .pointer (some ⟨w0.heap.size, 0, none⟩)) (hy : a.eval y = .agg cells)
    (hi : (P.info? ty).map (·.size) = some cells.size) (hold : old.size = cells.size) (h1 : cells.all (·.oneCell') = true)
    (h : ∀ w', w'.heap[w0.heap.size]? = some (.cells cells t (0, 0)) → Kept (fun _ => False) w0 w' → wpList P ops Q rest (a.put o.dst undef) w') : wpList P ops Q (o :: rest) a w := by
  subst hw
  refine wpList_store_row hgd ty x y ho _ cells hx hy t old (heap_alloc_new w0 _) hi hold h1 (h _ (setRow_heap _ _ _ _ _ _ (heap_alloc_new w0 _)) ?_)
  exact ((Kept.refl (fun _ => False) w0).alloc _).newer (setRow_keptW _ _ _) (fun i e => by rw [e]; exact Nat.le_refl _)
theorem results_cc {P : Program} {fn : Func} {p p2 : Tmp} {ty ty2 : TypeId} (h : fn.results = #[.cell p ty, .cell p2 ty2]) (tmps : Array Value) (w : World) (g g2 : Nat) (t' t2 : TypeId) (cs cs2 : Array Value) (fr fr2 : Nat × Nat) (d d2 : TypeDesc)
    (hp : tmps.getD p undef = .pointer (some ⟨g, 0, none⟩)) (hg : w.heap[g]? = some (.cells cs t' fr))
    (hu : P.underlying ty = some d) (hd : (match d with | .struct _ | .array _ _ => true | _ => false) = true) (hi : (P.info? ty).map (·.size) = some cs.size)
    (hp2 : tmps.getD p2 undef = .pointer (some ⟨g2, 0, none⟩)) (hg2 : w.heap[g2]? = some (.cells cs2 t2 fr2))
    (hu2 : P.underlying ty2 = some d2) (hd2 : (match d2 with | .struct _ | .array _ _ => true | _ => false) = true) (hi2 : (P.info? ty2).map (·.size) = some cs2.size) :
    (results fn tmps).run P w = .ok (.tuple #[.agg cs, .agg cs2]) w := by
  have hp' : tmps[p]?.getD undef = .pointer (some ⟨g, 0, none⟩) := by simpa using hp
  have hp2' : tmps[p2]?.getD undef = .pointer (some ⟨g2, 0, none⟩) := by simpa using hp2
  simp [results, h, hp', hp2', asAddr, run_loadVar_row w g t' ty cs fr d hg hu hd hi, run_loadVar_row w g2 t2 ty2 cs2 fr2 d2 hg2 hu2 hd2 hi2]
theorem results_cct {P : Program} {fn : Func} {p p2 s : Tmp} {ty ty2 : TypeId} (h : fn.results = #[.cell p ty, .cell p2 ty2, .tmp s]) (tmps : Array Value) (w : World) (g g2 : Nat) (t' t2 : TypeId) (cs cs2 : Array Value) (fr fr2 : Nat × Nat) (d d2 : TypeDesc)
    (hp : tmps.getD p undef = .pointer (some ⟨g, 0, none⟩)) (hg : w.heap[g]? = some (.cells cs t' fr))
    (hu : P.underlying ty = some d) (hd : (match d with | .struct _ | .array _ _ => true | _ => false) = true) (hi : (P.info? ty).map (·.size) = some cs.size)
    (hp2 : tmps.getD p2 undef = .pointer (some ⟨g2, 0, none⟩)) (hg2 : w.heap[g2]? = some (.cells cs2 t2 fr2))
    (hu2 : P.underlying ty2 = some d2) (hd2 : (match d2 with | .struct _ | .array _ _ => true | _ => false) = true) (hi2 : (P.info? ty2).map (·.size) = some cs2.size) :
    (results fn tmps).run P w = .ok (.tuple #[.agg cs, .agg cs2, tmps.getD s undef]) w := by
  have hp' : tmps[p]?.getD undef = .pointer (some ⟨g, 0, none⟩) := by simpa using hp
  have hp2' : tmps[p2]?.getD undef = .pointer (some ⟨g2, 0, none⟩) := by simpa using hp2
  simp [results, h, hp', hp2', asAddr, run_loadVar_row w g t' ty cs fr d hg hu hd hi, run_loadVar_row w g2 t2 ty2 cs2 fr2 d2 hg2 hu2 hd2 hi2]
theorem state_info : (Try.prog.info? 32).map (·.size) = some 12 := by kernel_rfl
/-- A point whose parts are new. -/
structure NewP (W w : World) (x : Pnt) (a1 a2 a3 : Option Addr) (c1 c2 c3 : Nat) : Prop where
  at_ : MineP W w (.slice a1 x.L.length c1) x.L
  mp : Mine W w 25 (.slice a2 x.h.pl.length c2) (uvals x.h.pl)
  mn : Mine W w 25 (.slice a3 x.h.nl.length c3) (uvals x.h.nl)
theorem NewP.on {W w w' : World} {x : Pnt} {a1 a2 a3 : Option Addr} {c1 c2 c3 : Nat} (h : NewP W w x a1 a2 a3 c1 c2 c3) (k : Kept (fun _ => False) w w') : NewP W w' x a1 a2 a3 c1 c2 c3 := ⟨h.at_.on k, h.mp.on k, h.mn.on k⟩
theorem NewP.down {W0 W w : World} {x : Pnt} {a1 a2 a3 : Option Addr} {c1 c2 c3 : Nat} (h : NewP W w x a1 a2 a3 c1 c2 c3) (k : Kept (fun _ => False) W0 W) : NewP W0 w x a1 a2 a3 c1 c2 c3 := ⟨h.at_.down k, h.mp.down k, h.mn.down k⟩
theorem NewP.pnt {W w : World} {x : Pnt} {a1 a2 a3 : Option Addr} {c1 c2 c3 : Nat} (h : NewP W w x a1 a2 a3 c1 c2 c3) : PntAt w x a1 c1 (.slice a2 x.h.pl.length c2) (.slice a3 x.h.nl.length c3) := ⟨h.at_.at_, own_capW h.at_.own, ⟨h.mp.at_, h.mn.at_⟩⟩
theorem NewP.nil {W w : World} (k : Kept (fun _ => False) W w) : NewP W w zeroPt none none none 0 0 0 := ⟨MineP.nil k, Mine.nil' _ k, Mine.nil' _ k⟩
/-- A point in a value, its parts new. -/
def GotP (W w : World) (x : Pnt) (v : Value) : Prop := ∃ a1 a2 a3 c1 c2 c3, v = pntV x (.slice a1 x.L.length c1) (.slice a2 x.h.pl.length c2) (.slice a3 x.h.nl.length c3) ∧ NewP W w x a1 a2 a3 c1 c2 c3
theorem GotP.cells {W w : World} {x : Pnt} {v : Value} (h : GotP W w x v) : ∃ CY, v = .agg CY ∧ ((Try.prog.info? 37).map (·.size) = some CY.size) ∧ CY.size = 17 ∧ CY.all (·.oneCell') = true := by
  obtain ⟨a1, a2, a3, c1, c2, c3, rfl, _⟩ := h
  exact ⟨_, rfl, point_info, rfl, pntC_one' (ones_slices _ _ _ _ _ _ _ _ _)⟩
theorem GotP.down {W0 W w : World} {x : Pnt} {v : Value} (h : GotP W w x v) (k : Kept (fun _ => False) W0 W) : GotP W0 w x v := by
  obtain ⟨a1, a2, a3, c1, c2, c3, e, n⟩ := h
  exact ⟨a1, a2, a3, c1, c2, c3, e, n.down k⟩
theorem GotP.zero {W w : World} (k : Kept (fun _ => False) W w) : GotP W w zeroPt (.agg #[.string { data := #[] }, .slice none 0 0, .int .i64 0, .int .i64 0, .bool false, .int .i64 0, .int .i64 0, .int .i64 0, .int .u64 0, .int .u64 0, .int .i64 0, .int .u64 0, .int .i64 0, .slice none 0 0, .int .i64 0, .slice none 0 0, .int .i64 0]) := ⟨none, none, none, 0, 0, 0, rfl, NewP.nil k⟩
theorem GotP.kept {W w : World} {x : Pnt} {v : Value} (h : GotP W w x v) : Kept (fun _ => False) W w := by
  obtain ⟨a1, a2, a3, c1, c2, c3, e, n⟩ := h
  exact n.at_.kept
theorem pclone_got (x : Pnt) (aa pa na : Option Addr) (ac pc nc : Nat) (w : World) (ha : PntAt w x aa ac (.slice pa x.h.pl.length pc) (.slice na x.h.nl.length nc)) (hli : x.light) :
    Calls Try.prog 62 #[pntV x (.slice aa x.L.length ac) (.slice pa x.h.pl.length pc) (.slice na x.h.nl.length nc)] w fun e w' => ∃ v, e = .returned v ∧ GotP w w' x v := by
  refine (pClone_any x aa pa na ac pc nc w ha hli).mono ?_
  rintro e w' ⟨a1, c1, a2, c2, a3, c3, rfl, m1, m2, m3⟩
  exact ⟨_, rfl, a1, a2, a3, c1, c2, c3, rfl, m1, m2, m3⟩
/-- A row of the base's own is written: what is new stays. -/
theorem GotP.row {W0 W w : World} {x : Pnt} {v : Value} (h : GotP W w x v) {q : Nat} (k : Kept (fun _ => False) W0 W) (hq : q < W.heap.size) (h0 : W0.heap.size ≤ q) (cs : Array Value) : GotP W0 (w.setRow q cs) x v := by
  obtain ⟨a1, a2, a3, c1, c2, c3, e, n⟩ := h
  have kk := setRow_keptW w q cs
  have n4 := n.down k
  exact ⟨a1, a2, a3, c1, c2, c3, e, n4.at_.keptS kk (fun k e1 e2 => by have := (ownsRow_lt n.at_.own e1).2; omega) (fun k e => by omega), n4.mp.keptS kk (fun k e1 e2 => by have := (ownsRow_lt n.mp.own e1).2; omega) (fun k e => by omega), n4.mn.keptS kk (fun k e1 e2 => by have := (ownsRow_lt n.mn.own e1).2; omega) (fun k e => by omega)⟩
set_option maxHeartbeats 4000000 in
set_option maxRecDepth 100000 in
theorem fitted_any (x : Pnt) (aa pa na : Option Addr) (ac pc nc : Nat) (most : Int) (w : World) (ha : PntAt w x aa ac (.slice pa x.h.pl.length pc) (.slice na x.h.nl.length nc)) (hli : x.light) (hk : x.kind ≠ 4) :
    Calls Try.prog 70 #[pntV x (.slice aa x.L.length ac) (.slice pa x.h.pl.length pc) (.slice na x.h.nl.length nc), .int .i64 most] w fun e w' => ∃ v, e = .returned (.tuple #[v, .int .i64 (if x.flags = 0 then 0 else 3)]) ∧ GotP w w' (if x.flags = 0 then x else zeroPt) v := by
  have HKD := Lib.hid hk
  clear hk
  obtain ⟨q, hq⟩ : ∃ q, q = w.heap.size := ⟨_, rfl⟩
  obtain ⟨CX, hCX⟩ : ∃ a, a = pntC x (.slice aa x.L.length ac) (.slice pa x.h.pl.length pc) (.slice na x.h.nl.length nc) := ⟨_, rfl⟩
  have hvx : pntV x (.slice aa x.L.length ac) (.slice pa x.h.pl.length pc) (.slice na x.h.nl.length nc) = .agg CX := by rw [hCX]; rfl
  have HIX : Hid ((Try.prog.info? 37).map (·.size) = some CX.size) := Lib.hid (point_info.trans (by rw [hCX]; rfl))
  obtain ⟨w2, hw2⟩ : ∃ w2, w2 = (w.alloc (.cells CX 37)).alloc (.cells #[.string { data := #[] }, .slice none 0 0, .int .i64 0, .int .i64 0, .bool false, .int .i64 0, .int .i64 0, .int .i64 0, .int .u64 0, .int .u64 0, .int .i64 0, .int .u64 0, .int .i64 0, .slice none 0 0, .int .i64 0, .slice none 0 0, .int .i64 0] 37) := ⟨_, rfl⟩
  have k2 : Kept (fun _ => False) w w2 := by rw [hw2]; exact ((Kept.refl _ _).alloc _).alloc _
  have hb1 : w2.heap[q]? = some (.cells CX 37 (0, 0)) := by rw [hw2, hq]; exact ((Kept.refl (fun _ => False) _).alloc _).same (heap_alloc_new w _) (fun x => x)
  have hb2 : w2.heap[q + 1]? = some (.cells #[.string { data := #[] }, .slice none 0 0, .int .i64 0, .int .i64 0, .bool false, .int .i64 0, .int .i64 0, .int .i64 0, .int .u64 0, .int .u64 0, .int .i64 0, .int .u64 0, .int .i64 0, .slice none 0 0, .int .i64 0, .slice none 0 0, .int .i64 0] 37 (0, 0)) := by rw [hw2, hq]; exact box_second2 w _ _
  have HBX : Hid (∀ w', Kept (fun _ => False) w2 w' → w'.heap[q]? = some (.cells CX 37 (0, 0)) ∧ w'.heap[q + 1]? = some (.cells #[.string { data := #[] }, .slice none 0 0, .int .i64 0, .int .i64 0, .bool false, .int .i64 0, .int .i64 0, .int .i64 0, .int .u64 0, .int .u64 0, .int .i64 0, .int .u64 0, .int .i64 0, .slice none 0 0, .int .i64 0, .slice none 0 0, .int .i64 0] 37 (0, 0))) := Lib.hid (fun w' k => ⟨k.same hb1 (fun x => x), k.same hb2 (fun x => x)⟩)
  have HX := Lib.hid (fun w' (k : Kept (fun _ => False) w2 w') => ha.on (k2.trans k))
  have HCX := Lib.hid hCX
  have HW2 := Lib.hid (And.intro hw2 hq)
  have HK02 := Lib.hid k2
  have HGE : Hid (w.heap.size ≤ q) := Lib.hid (by omega)
  have HCL := Lib.hid (fun w' (k : Kept (fun _ => False) w2 w') => pclone_got x aa pa na ac pc nc w' (HX.out w' k) hli)
  rw [hvx] at HCL ⊢
  have p16 : w2.cell? ⟨q, 16, none⟩ = some (.int .i64 x.flags) := cell_rowZ 16 _ hb1 (by rw [hCX]; rfl)
  have HP2 : Hid (∀ w', Kept (fun _ => False) w2 w' → w'.cell? ⟨q, 2, none⟩ = some (.int .i64 x.kind)) := Lib.hid (fun w' k => cell_rowZ 2 _ (HBX.out w' k).1 (by rw [HCX.out]; rfl))
  clear hw2 hq k2 hb1 hb2 hvx hCX ha hli
  by_cases h1 : x.flags = 0
  case neg =>
    rw [if_neg h1, if_neg h1]
    have q1 : (x.flags != 0) = true := by simpa using h1
    clear h1
    go_enter Try.func70, Try.ntmps70
    go_upto_region 1 with fail
    rw [← HW2.out.1, ← HW2.out.2]
    go_wp2_with (first
      | (refine wpList_store_row rfl 37 (.tmp 4) _ rfl (q + 1) #[.string { data := #[] }, .slice none 0 0, .int .i64 0, .int .i64 0, .bool false, .int .i64 0, .int .i64 0, .int .i64 0, .int .u64 0, .int .u64 0, .int .i64 0, .int .u64 0, .int .i64 0, .slice none 0 0, .int .i64 0, .slice none 0 0, .int .i64 0] rfl rfl 37 _ (HBX.out w2 (Kept.refl _ _)).2 point_info rfl (pntC_one' (x := zeroPt) (ones_slices _ _ _ _ _ _ _ _ _)) ?_)
      | fail)
    refine bodyPost_ret (results_ct Try.results70 _ _ (q + 1) 37 _ (0, 0) _ rfl (setRow_heap _ _ _ _ _ _ (HBX.out w2 (Kept.refl _ _)).2) Try.underlying37 rfl point_info) rfl ?_
    exact ⟨_, rfl, GotP.zero (HK02.out.newer (setRow_keptW _ _ _) (fun i e => by have := HGE.out; omega))⟩
  rw [if_pos h1, if_pos h1]
  rw [h1] at p16
  clear h1
  go_enter Try.func70, Try.ntmps70
  go_upto_region 1 with fail
  rw [← HW2.out.1, ← HW2.out.2]
  go_upto_region 3 with fail
  go_wp2_with (first
    | (refine wpList_load_row rfl 37 (.tmp 2) rfl q rfl 37 _ (0, 0) _ (HBX.out w2 (Kept.refl _ _)).1 Try.underlying37 rfl HIX.out ?_)
    | fail)
  refine (HCL.out w2 (Kept.refl _ _)).mono ?_
  rintro e w3 ⟨v, rfl, g3⟩
  have HG3 := Lib.hid g3
  obtain ⟨CY, rfl, hi, hs, h1⟩ := g3.cells
  have HIY := Lib.hid hi
  have HSY := Lib.hid (And.intro hs h1)
  have HK3 := Lib.hid g3.kept
  clear g3 hi hs h1
  obtain ⟨g6, hg6⟩ : ∃ g, g = w3.heap.size := ⟨_, rfl⟩
  have HG6 := Lib.hid hg6
  clear hg6
  go_upto_region 4 with (refine wpList_store_box rfl 37 (.tmp 6) _ rfl w3 _ CY 37 rfl rfl rfl HIY.out (by rw [HSY.out.1]; rfl) HSY.out.2 ?_; intro w4 hb4 k4; have HB4 : Hid (w4.heap[g6]? = some (.cells CY 37 (0, 0))) := Lib.hid (by rw [HG6.out]; exact hb4); have HK34 := Lib.hid k4; have HK4 := Lib.hid (HK3.out.trans k4); clear hb4 k4)
  rw [← HG6.out]
  have p2 := HP2.out w4 HK4.out
  have q4 : (x.kind != 4) = true := by simpa using HKD.out
  go_wp2_with (first
    | (refine wpList_load_row rfl 37 (.tmp 6) rfl g6 rfl 37 _ (0, 0) _ HB4.out Try.underlying37 rfl HIY.out ?_)
    | (refine wpList_store_row rfl 37 (.tmp 4) _ rfl (q + 1) CY rfl rfl 37 _ (HBX.out w4 HK4.out).2 HIY.out (by rw [HSY.out.1]; rfl) HSY.out.2 ?_)
    | fail)
  refine bodyPost_ret (results_ct Try.results70 _ _ (q + 1) 37 _ (0, 0) _ rfl (setRow_heap _ _ _ _ _ _ (HBX.out w4 HK4.out).2) Try.underlying37 rfl HIY.out) rfl ?_
  have kk : Kept (fun k => k = q + 1) w4 (w4.setRow (q + 1) CY) := setRow_keptW _ _ _
  obtain ⟨a1, a2, a3, c1, c2, c3, e, n⟩ := HG3.out
  have n4 := (n.on HK34.out).down HK02.out
  have hne : w2.heap.size ≠ 0 ∧ q + 1 < w2.heap.size := by have := (Array.getElem?_eq_some_iff.1 (HBX.out w2 (Kept.refl _ _)).2).1; omega
  have hlt := fun (v : Value) (B : Nat) (E : TypeId) (s m : Nat) (xs : List Value) (h : w4.ownsRow w2.heap.size E s v m xs) (k : Nat) (e : v.ownBlock = some k) => (ownsRow_lt h e).2
  have n3 := n.on HK34.out
  refine ⟨_, rfl, a1, a2, a3, c1, c2, c3, e, ?_, ?_, ?_⟩
  · exact n4.at_.keptS kk (fun k e1 e2 => by have := (ownsRow_lt n3.at_.own e1).2; omega) (fun k e => by have := HGE.out; omega)
  · exact n4.mp.keptS kk (fun k e1 e2 => by have := (ownsRow_lt n3.mp.own e1).2; omega) (fun k e => by have := HGE.out; omega)
  · exact n4.mn.keptS kk (fun k e1 e2 => by have := (ownsRow_lt n3.mn.own e1).2; omega) (fun k e => by have := HGE.out; omega)
end Go.Proofs.Ytiiibhdohlpodaa

