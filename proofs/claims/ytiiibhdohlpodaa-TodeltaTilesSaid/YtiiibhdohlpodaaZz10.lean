/- Texts put together: what the theorem stands on. -/
import Derived.Test.YtiiibhdohlpodaaZz3
import Derived.Test.YtiiibhdohlpodaaZz4
import Derived.Test.YtiiibhdohlpodaaZz6
import Derived.Test.YtiiibhdohlpodaaZz7
import Derived.Test.YtiiibhdohlpodaaZz8
import Derived.Test.YtiiibhdohlpodaaZz9
import Derived.WalkKit
import Derived.WalkLawsBesides
import Derived.WalkSpells
import Derived.Deep.AppendSrc
import Derived.Deep.AppendLies
import Derived.ProofKit
import Derived.OpenShut
import Derived.WideShapes
import Derived.Lib.Hide
import Derived.Laws.Rows
import Derived.Deep.RegionHeld3
import Derived.Deep.RegionWith
import Derived.Deep.DrawnRows
import Derived.Deep.QuietTactic
import Derived.BigQuiet
import Derived.Outline
import Derived.Deep.DeepCutAuto
import Derived.Deep.LoopGhost
import Derived.Deep.RegionLaw
import Derived.Deep.CutBlock
import Derived.StillTailTactics
import Derived.Test.YtiiibhdohlpodaaRows
import Derived.Laws.Externs
import Derived.Lib.SmallJoins
import Derived.Laws.OwnMore
import Derived.OrdersHeld
import Derived.StillTail
import Derived.RegionTactic
import Derived.BigRegion
import Derived.Deep.MidRow
import Derived.Laws.FloatArith
import Derived.Laws.ComplexArith
import Derived.LoopTactic
import Derived.Great.BuildSlice

namespace Go.Proofs.Ytiiibhdohlpodaa
open Go.RowKit
/-- What a call answers that makes a histogram, in new memory. -/
def HistNew (w : World) (R : HistV) (E : Nat) (e : Ending) (w' : World) : Prop :=
  ∃ pv nv, e = .returned (.tuple #[histV R pv nv, .int .i64 (E : Int)]) ∧ Mine w w' 25 pv (uvals R.pl) ∧ Mine w w' 25 nv (uvals R.nl)
theorem HistNew.zero {w w' : World} {E : Nat} (hk : Kept (fun _ => False) w w') : HistNew w zeroH E (.returned (.tuple #[histV zeroH (.slice none 0 0) (.slice none 0 0), .int .i64 (E : Int)])) w' :=
  ⟨_, _, rfl, Mine.nil' _ hk, Mine.nil' _ hk⟩
theorem lev_right {a b : HistV} (h : levE a b = 0) (oka : a.ok) (okb : b.ok) : a.err = 0 ∧ b.err = 0 ∧ (levX a b).err = 0 ∧ (levY a b).err = 0 ∧ (levX a b).ok ∧ (levY a b).ok ∧ (levX a b).total = a.total ∧ (levY a b).total = b.total := by
  have h1 : a.err = 0 := by
    by_cases e : a.err = 0
    · exact e
    · unfold levE at h; rw [if_pos e] at h; exact h
  have h2 : b.err = 0 := by unfold levE at h; rw [if_neg (by omega)] at h; exact h
  obtain ⟨g1, g2, g3, g4, g5⟩ := lev_good h1 h2
  refine ⟨h1, h2, ?_, ?_, ?_, ?_, ?_, ?_⟩
  · rw [g4, downR_ok g2]; have := downE_zero g2; exact downH_err a _ h1 (by omega)
  · rw [g5, downR_ok g3]; have := downE_zero g3; exact downH_err b _ h2 (by omega)
  · rw [g4]; exact downR_ok' a _ oka
  · rw [g5]; exact downR_ok' b _ okb
  · rw [g4, downR_ok g2]; exact downH_total a _
  · rw [g5, downR_ok g3]; exact downH_total b _
theorem trim_exists (o : Int) (l : List Nat) : ∃ o' l', TrimOf o l o' l' := by
  by_cases h : ∃ j, j < l.length ∧ l.getD j 0 ≠ 0
  · obtain ⟨j, hj, hn⟩ := h
    obtain ⟨a, ha, hna, hmin⟩ := least_nat (fun j => l.getD j 0 ≠ 0) j hn
    obtain ⟨k, hk, hnk, hmax⟩ := least_nat (fun k => l.getD (l.length - 1 - k) 0 ≠ 0) (l.length - 1 - j) (by rw [show l.length - 1 - (l.length - 1 - j) = j by omega]; exact hn)
    refine ⟨_, _, .inr ⟨a, l.length - k, ?_, by omega, fun i hi => Decidable.of_not_not (hmin i hi), fun i h1 h2 => ?_, hna, ?_, rfl, rfl⟩⟩
    · by_cases e : a < l.length - k
      · exact e
      · have hz := hmin (l.length - 1 - k) (by omega)
        exact absurd hnk hz
    · have := hmax (l.length - 1 - i) (by omega)
      rw [show l.length - 1 - (l.length - 1 - i) = i by omega] at this
      exact Decidable.of_not_not this
    · rw [show l.length - k - 1 = l.length - 1 - k by omega]; exact hnk
  · exact ⟨_, _, .inl ⟨fun j hj => Decidable.of_not_not fun hn => h ⟨j, hj, hn⟩, rfl, rfl⟩⟩
theorem sub_exists (o1 : Int) (l1 : List Nat) (o2 : Int) (l2 : List Nat) : ∃ ok o l, SubRes o1 l1 o2 l2 ok o l := by
  by_cases h : hasS o1 l1 o2 l2
  · obtain ⟨o, l, t⟩ := trim_exists o1 (lsL o1 l1 o2 l2)
    exact ⟨_, _, _, .inl ⟨rfl, h, t⟩⟩
  · exact ⟨_, _, _, .inr ⟨rfl, h, rfl, rfl⟩⟩
/-- What Sub answers. -/
def SubH (a b R : HistV) (E : Nat) : Prop :=
  (levE a b ≠ 0 ∧ E = levE a b ∧ R = zeroH) ∨
  (levE a b = 0 ∧ ∃ k1 o1 l1 k2 o2 l2, SubRes (levX a b).po (levX a b).pl (levY a b).po (levY a b).pl k1 o1 l1 ∧ SubRes (levX a b).no (levX a b).nl (levY a b).no (levY a b).nl k2 o2 l2 ∧
    ((k1 = true ∧ k2 = true ∧ (levY a b).ze ≤ (levX a b).ze ∧ E = 0 ∧ R = ⟨(levX a b).sc, (levX a b).ze - (levY a b).ze, o1, l1, o2, l2⟩) ∨ ((k1 = false ∨ k2 = false ∨ (levX a b).ze < (levY a b).ze) ∧ E = 7 ∧ R = zeroH)))
theorem SubH.uniq {a b R R' : HistV} {E E' : Nat} (h : SubH a b R E) (h' : SubH a b R' E') : R = R' ∧ E = E' := by
  rcases h with ⟨c, rfl, rfl⟩ | ⟨c, k1, o1, l1, k2, o2, l2, s1, s2, h⟩ <;> rcases h' with ⟨c', rfl, rfl⟩ | ⟨c', j1, p1, m1, j2, p2, m2, t1, t2, h'⟩
  · exact ⟨rfl, rfl⟩
  · exact absurd c' c
  · exact absurd c c'
  · obtain ⟨rfl, rfl, rfl⟩ := s1.uniq t1
    obtain ⟨rfl, rfl, rfl⟩ := s2.uniq t2
    rcases h with ⟨x1, x2, x3, rfl, rfl⟩ | ⟨x, rfl, rfl⟩ <;> rcases h' with ⟨y1, y2, y3, rfl, rfl⟩ | ⟨y, rfl, rfl⟩
    · exact ⟨rfl, rfl⟩
    · rcases y with y | y | y
      · rw [x1] at y; cases y
      · rw [x2] at y; cases y
      · omega
    · rcases x with x | x | x
      · rw [y1] at x; cases x
      · rw [y2] at x; cases x
      · omega
    · exact ⟨rfl, rfl⟩
/-- Three boxes: two histograms that came in, and one to answer. -/
structure HB3 (w wr : World) (a b r : HistV) (ap an bp bn rp rn : Value) : Prop where
  a : HistBox wr w.heap.size a ap an
  b : HistBox wr (w.heap.size + 1) b bp bn
  r : HistBox wr (w.heap.size + 1 + 1) r rp rn
theorem HB3.on {w wr w' : World} {a b r : HistV} {ap an bp bn rp rn : Value} (h : HB3 w wr a b r ap an bp bn rp rn) (k : Kept (fun _ => False) wr w') : HB3 w w' a b r ap an bp bn rp rn := ⟨h.a.same k (fun x => x), h.b.same k (fun x => x), h.r.same k (fun x => x)⟩
theorem HB3.mk0 (w : World) (a b : HistV) (ap an bp bn : Value) : HB3 w (((w.alloc (.cells #[.int .i64 a.sc, .int .u64 (a.ze : Int), .int .i64 a.po, ap, .int .i64 a.no, an] 30)).alloc (.cells #[.int .i64 b.sc, .int .u64 (b.ze : Int), .int .i64 b.po, bp, .int .i64 b.no, bn] 30)).alloc (.cells #[.int .i64 0, .int .u64 0, .int .i64 0, .slice none 0 0, .int .i64 0, .slice none 0 0] 30)) a b zeroH ap an bp bn (.slice none 0 0) (.slice none 0 0) := by
  have k := fun (w : World) o => (Kept.refl (fun _ => False) w).alloc o
  refine ⟨?_, ?_, ?_⟩
  · exact ((hist_boxed w a ap an).same (k _ _) (fun x => x)).same (k _ _) (fun x => x)
  · have := hist_boxed (w.alloc (.cells #[.int .i64 a.sc, .int .u64 (a.ze : Int), .int .i64 a.po, ap, .int .i64 a.no, an] 30)) b bp bn
    rw [show (w.alloc (.cells #[.int .i64 a.sc, .int .u64 (a.ze : Int), .int .i64 a.po, ap, .int .i64 a.no, an] 30)).heap.size = w.heap.size + 1 by simp] at this
    exact this.same (k _ _) (fun x => x)
  · have := hist_alloc ((w.alloc (.cells #[.int .i64 a.sc, .int .u64 (a.ze : Int), .int .i64 a.po, ap, .int .i64 a.no, an] 30)).alloc (.cells #[.int .i64 b.sc, .int .u64 (b.ze : Int), .int .i64 b.po, bp, .int .i64 b.no, bn] 30))
    rw [show ((w.alloc (.cells #[.int .i64 a.sc, .int .u64 (a.ze : Int), .int .i64 a.po, ap, .int .i64 a.no, an] 30)).alloc (.cells #[.int .i64 b.sc, .int .u64 (b.ze : Int), .int .i64 b.po, bp, .int .i64 b.no, bn] 30)).heap.size = w.heap.size + 1 + 1 by simp] at this
    exact this
/-- A pair of histograms in new memory. -/
structure Two2 (w wr : World) (X Y : HistV) (p1 n1 p2 n2 : Value) : Prop where
  p1 : Mine w wr 25 p1 (uvals X.pl)
  n1 : Mine w wr 25 n1 (uvals X.nl)
  p2 : Mine w wr 25 p2 (uvals Y.pl)
  n2 : Mine w wr 25 n2 (uvals Y.nl)
theorem Two2.on {w wr w' : World} {X Y : HistV} {p1 n1 p2 n2 : Value} (h : Two2 w wr X Y p1 n1 p2 n2) (k : Kept (fun _ => False) wr w') : Two2 w w' X Y p1 n1 p2 n2 := ⟨h.p1.on k, h.n1.on k, h.p2.on k, h.n2.on k⟩
theorem side_boxed (w : World) (o : Int) (v : Value) : SideBox (w.alloc (.cells #[.int .i64 o, v] 28)) w.heap.size o v := heap_alloc_new w _
/-- SubOut's answer, known ahead. -/
theorem SubOut.try_ {W w : World} {o1 o2 o : Int} {l1 l2 l : List Nat} {ok : Bool} {e : Ending} {w' : World} (hs : SubRes o1 l1 o2 l2 ok o l) (hk : Kept (fun _ => False) W w) (h : SubOut w (SubRes o1 l1 o2 l2) e w') : SideTry W w ok o l e w' := by
  obtain ⟨k, o', l', v, hr, rfl, hm⟩ := h
  obtain ⟨rfl, rfl, rfl⟩ := hs.uniq hr
  exact ⟨v, rfl, hm.down hk, hm.kept⟩
end Go.Proofs.Ytiiibhdohlpodaa
namespace Go.Proofs.Ytiiibhdohlpodaa
open Go.RowKit
attribute [local go_sem ↓] Go.wp_at_zero Go.wp_at_succ
end Go.Proofs.Ytiiibhdohlpodaa
namespace Go.Proofs.Ytiiibhdohlpodaa
open Go.RowKit
attribute [local go_sem ↓] Go.wp_at_zero Go.wp_at_succ
end Go.Proofs.Ytiiibhdohlpodaa

namespace Go.Proofs.Ytiiibhdohlpodaa
open Go.RowKit
/-- Has a histogram so few buckets? -/
def fitsB (h : HistV) (most : Int) : Bool := decide ((h.pl.length : Int) ≤ most) && decide ((h.nl.length : Int) ≤ most)
end Go.Proofs.Ytiiibhdohlpodaa

namespace Go.Proofs.Ytiiibhdohlpodaa
open Go.RowKit
/-- Whether both sides have at most so many buckets, as a test. -/
def fitQ (h : HistV) (most : Int) (b : Nat) : Bool := decide (((dWidth h.po h.pl.length b : Nat) : Int) ≤ most) && decide (((dWidth h.no h.nl.length b : Nat) : Int) ≤ most)
theorem fitQ_iff (h : HistV) (most : Int) (b : Nat) : fitQ h most b = true ↔ fits h most b := by unfold fitQ fits; simp
def fitK (h : HistV) (most : Int) : Nat → Nat → HistV × Nat
  | 0, _ => (zeroH, 4)
  | f + 1, b => if fitQ h most b = true then (downH h b, 0) else fitK h most f (b + 1)
/-- A histogram as coarse as it must be; why it doesn't fit. -/
def fitG (h : HistV) (most : Int) : HistV × Nat := if h.err ≠ 0 then (zeroH, h.err) else fitK h most (h.sc + 11).toNat 0
theorem fitK_of {h : HistV} {most : Int} (he : h.err = 0) (f : Nat) : ∀ b : Nat, (b : Int) + f = h.sc + 11 → (∀ a, a < b → ¬ fits h most a) → FitOf h most (fitK h most f b).1 (fitK h most f b).2 := by
  induction f with
  | zero => intro b hb hn; exact .inr (.inr ⟨he, fun a ha => hn a (by omega), rfl, rfl⟩)
  | succ f ih =>
    intro b hb hn
    rw [fitK]
    by_cases hq : fitQ h most b = true
    · rw [if_pos hq]
      exact .inr (.inl ⟨he, b, by omega, (fitQ_iff _ _ _).1 hq, hn, rfl, rfl⟩)
    · rw [if_neg hq]
      refine ih (b + 1) (by omega) (fun a ha => ?_)
      by_cases e : a = b
      · subst e; exact fun c => hq ((fitQ_iff _ _ _).2 c)
      · exact hn a (by omega)
theorem fitG_of (h : HistV) (most : Int) : FitOf h most (fitG h most).1 (fitG h most).2 := by
  unfold fitG
  by_cases he : h.err = 0
  · rw [if_neg (by omega)]
    have := (err_light he).1
    exact fitK_of he _ 0 (by omega) (fun a ha => by omega)
  · rw [if_pos he]
    exact .inl ⟨he, rfl, rfl⟩
/-- What holds of a histogram that was fitted. -/
theorem fitG_right {h : HistV} {most : Int} (hok : h.ok) (h0 : (fitG h most).2 = 0) : h.err = 0 ∧ ∃ b : Nat, (b : Int) ≤ h.sc + 10 ∧ (fitG h most).1 = downH h b ∧ (fitG h most).1.err = 0 ∧ (fitG h most).1.ok ∧ fitsB (fitG h most).1 most = true := by
  rcases fitG_of h most with ⟨a, e, _⟩ | ⟨a, b, hb, f, _, r, _⟩ | ⟨_, _, _, e⟩
  · omega
  · have hd : downE h b = 0 := downE_mk a (by omega) hb
    have hr : downR h b = downH h b := by rw [downR_ok hd]; rfl
    refine ⟨a, b, hb, r, by rw [r]; exact downH_err h b a hb, by rw [r, ← hr]; exact downR_ok' h b hok, ?_⟩
    rw [r]
    unfold fits at f
    unfold fitsB downH
    simp only [downL_length, Bool.and_eq_true, decide_eq_true_eq]
    exact f
  · omega
/-- A point that is taken, with its fitted histogram; why it isn't. -/
def takenF (x : Pnt) (temp most : Int) : Pnt × Nat :=
  if takenE x temp ≠ 0 then (zeroPt, takenE x temp) else
  if x.kind = 4 then (if (fitG x.h most).2 = 0 then ({ x with h := (fitG x.h most).1 }, 0) else (zeroPt, (fitG x.h most).2)) else (x, 0)
def fin4 (a b c d : Int) : Bool := finI a && finI b && finI c && finI d
theorem takenF_zero {x : Pnt} {t most : Int} (h : (takenF x t most).2 = 0) : takenE x t = 0 ∧ ((x.kind = 4 ∧ (fitG x.h most).2 = 0 ∧ (takenF x t most).1 = { x with h := (fitG x.h most).1 }) ∨ (x.kind ≠ 4 ∧ (takenF x t most).1 = x)) := by
  unfold takenF at h ⊢
  by_cases h1 : takenE x t = 0
  · rw [if_neg (by omega)] at h ⊢
    refine ⟨h1, ?_⟩
    by_cases hk : x.kind = 4
    · rw [if_pos hk] at h ⊢
      by_cases h2 : (fitG x.h most).2 = 0
      · rw [if_pos h2] at h ⊢
        exact .inl ⟨hk, h2, rfl⟩
      · rw [if_neg h2] at h
        exact absurd h h2
    · rw [if_neg hk]
      exact .inr ⟨hk, rfl⟩
  · rw [if_pos h1] at h
    exact absurd h h1
end Go.Proofs.Ytiiibhdohlpodaa

namespace Go.Proofs.Ytiiibhdohlpodaa
open Go.RowKit
attribute [local go_sem ↓] Go.wp_at_zero Go.wp_at_succ
/-- A whole value is loaded out of a row. -/
theorem wpList_load_part {P : Program} {ops : Array Oper} {rest : List Oper} {op : Oper} {a : Act} {w : World} {Q : Exit → Act → World → Prop} (hgd : op.guard = none) (ty : TypeId) (x : Operand) (ho : op.op = .load ty x)
    (b o : Nat) (hx : a.eval x = .pointer (some ⟨b, o, none⟩)) (cs : Array Value) (d : TypeDesc) (hc : w.rangeAt b o cs.toList)
    (hu : P.underlying ty = some d) (hd : d.isRow = true) (hi : (P.info? ty).map (·.size) = some cs.size)
    (h : wpList P ops Q rest (a.put op.dst (.agg cs)) w) : wpList P ops Q (op :: rest) a w :=
  wpList_load_mid hgd ty x ho b o hx cs.toList d hc hu hd (by simpa using hi) (by simpa using h)
theorem exec_load_part {P : Program} {o : Oper} {a : Act} {w : World} (ty : TypeId) (x : Operand) (ho : o.op = .load ty x)
    (b f : Nat) (hx : a.eval x = .pointer (some ⟨b, f, none⟩)) (cs : Array Value) (d : TypeDesc) (hc : w.rangeAt b f cs.toList)
    (hu : P.underlying ty = some d) (hd : d.isRow = true) (hi : (P.info? ty).map (·.size) = some cs.size) : (execOp a.eval o).run P w = .ok (.value (.agg cs)) w := by
  have := run_loadVar_mid (P := P) w b f ty cs.toList d hc hu hd (by simpa using hi)
  unfold execOp
  simp only [ho, hx, Instr.loadAt, Instr.sureAddr, Sem.run_bind, Sem.run_pure, Result.andThen_ok, this]
theorem PtsIn.on {W w : World} {ao : Option Addr} {L : List PtV} (h : PtsIn W ao L) (k : Kept (fun _ => False) W w) : PtsIn w ao L := ⟨h.at_.kept k, fun p hp => ⟨(h.each p hp).1.on k, (h.each p hp).2⟩⟩
theorem range_of {w : World} {g o i : Nat} {p : PtV} (h : ∀ j u, (cellsPt p)[j]? = some u → w.cell? ⟨g, o + i * 17 + j, none⟩ = some u) : w.rangeAt g (o + i * 17) p.cs.toList := fun j v hv => h j v hv
theorem pt_size (p : PtV) : (Try.prog.info? 37).map (·.size) = some p.cs.size := point_info
/-- Points that are few and light. -/
def someB (L : List PtV) : Bool := decide (L.length ≤ 20) && L.all fun p => lightP p.x
theorem all_take_succ {α : Type} {f : α → Bool} {L : List α} {i : Nat} {x : α} (h : L[i]? = some x) : (L.take (i + 1)).all f = ((L.take i).all f && f x) := by
  rw [List.take_add_one, h]; simp
theorem all_false {α : Type} {f : α → Bool} {L : List α} {i : Nat} {x : α} (h : L[i]? = some x) (hf : f x = false) : L.all f = false := by
  rw [List.all_eq_false]
  exact ⟨x, List.mem_of_getElem? h, by rw [hf]; decide⟩
theorem zeroHV_ok : zeroHV.ok := ⟨by unfold zeroHV; decide, by unfold zeroHV; decide, by unfold zeroHV; decide, fun x hx => (by cases hx), by unfold zeroHV; decide, fun x hx => (by cases hx)⟩
end Go.Proofs.Ytiiibhdohlpodaa

namespace Go.Proofs.Ytiiibhdohlpodaa
open Go.RowKit
attribute [local go_sem ↓] Go.wp_at_zero Go.wp_at_succ
/-- A part of a whole box. -/
theorem range_part {w : World} {q : Nat} {cs : Array Value} {T : TypeId} (h : w.heap[q]? = some (.cells cs T (0, 0))) (o : Nat) (l : List Value) (hl : ∀ (j : Nat) v, l[j]? = some v → cs[o + j]? = some v) : w.rangeAt q o l :=
  fun j v hv => cell_rowZ (o + j) v h (hl j v hv)
theorem pnt_hist (x : Pnt) (av pv nv : Value) : ∀ (j : Nat) v, (histA x.h pv nv).toList[j]? = some v → (pntC x av pv nv)[10 + j]? = some v
  | 0, _, h => h
  | 1, _, h => h
  | 2, _, h => h
  | 3, _, h => h
  | 4, _, h => h
  | 5, _, h => h
  | _ + 6, _, h => by simp [histA] at h
theorem st_hist (s : StV) (pv nv : Value) : ∀ (j : Nat) v, (histA s.h pv nv).toList[j]? = some v → (stC s pv nv)[6 + j]? = some v
  | 0, _, h => h
  | 1, _, h => h
  | 2, _, h => h
  | 3, _, h => h
  | 4, _, h => h
  | 5, _, h => h
  | _ + 6, _, h => by simp [histA] at h
set_option maxHeartbeats 8000000 in
set_option maxRecDepth 100000 in
theorem fitted4_any (x : Pnt) (aa pa na : Option Addr) (ac pc nc : Nat) (most : Int) (w : World) (ha : PntAt w x aa ac (.slice pa x.h.pl.length pc) (.slice na x.h.nl.length nc)) (hli : x.light) (hok : x.h.ok) (hk : x.kind = 4) :
    Calls Try.prog 70 #[pntV x (.slice aa x.L.length ac) (.slice pa x.h.pl.length pc) (.slice na x.h.nl.length nc), .int .i64 most] w fun e w' => ∃ v, e = .returned (.tuple #[v, .int .i64 (if x.flags = 0 then (((fitG x.h most).2 : Nat) : Int) else 3)]) ∧ GotP w w' (if x.flags = 0 then (if (fitG x.h most).2 = 0 then { x with h := (fitG x.h most).1 } else zeroPt) else zeroPt) v := by
  obtain ⟨q, hq⟩ : ∃ q, q = w.heap.size := ⟨_, rfl⟩
  obtain ⟨CX, hCX⟩ : ∃ a, a = pntC x (.slice aa x.L.length ac) (.slice pa x.h.pl.length pc) (.slice na x.h.nl.length nc) := ⟨_, rfl⟩
  have hvx : pntV x (.slice aa x.L.length ac) (.slice pa x.h.pl.length pc) (.slice na x.h.nl.length nc) = .agg CX := by rw [hCX]; rfl
  have HIX : Hid ((Try.prog.info? 37).map (·.size) = some CX.size) := Lib.hid (point_info.trans (by rw [hCX]; rfl))
  obtain ⟨w2, hw2⟩ : ∃ w2, w2 = (w.alloc (.cells CX 37)).alloc (.cells #[.string { data := #[] }, .slice none 0 0, .int .i64 0, .int .i64 0, .bool false, .int .i64 0, .int .i64 0, .int .i64 0, .int .u64 0, .int .u64 0, .int .i64 0, .int .u64 0, .int .i64 0, .slice none 0 0, .int .i64 0, .slice none 0 0, .int .i64 0] 37) := ⟨_, rfl⟩
  have k2 : Kept (fun _ => False) w w2 := by rw [hw2]; exact ((Kept.refl _ _).alloc _).alloc _
  have hb1 : w2.heap[q]? = some (.cells CX 37 (0, 0)) := by rw [hw2, hq]; exact ((Kept.refl (fun _ => False) _).alloc _).same (heap_alloc_new w _) (fun x => x)
  have hb2 : w2.heap[q + 1]? = some (.cells #[.string { data := #[] }, .slice none 0 0, .int .i64 0, .int .i64 0, .bool false, .int .i64 0, .int .i64 0, .int .i64 0, .int .u64 0, .int .u64 0, .int .i64 0, .int .u64 0, .int .i64 0, .slice none 0 0, .int .i64 0, .slice none 0 0, .int .i64 0] 37 (0, 0)) := by rw [hw2, hq]; exact box_second2 w _ _
  have HBX : Hid (∀ w', Kept (fun _ => False) w2 w' → w'.heap[q]? = some (.cells CX 37 (0, 0)) ∧ w'.heap[q + 1]? = some (.cells #[.string { data := #[] }, .slice none 0 0, .int .i64 0, .int .i64 0, .bool false, .int .i64 0, .int .i64 0, .int .i64 0, .int .u64 0, .int .u64 0, .int .i64 0, .int .u64 0, .int .i64 0, .slice none 0 0, .int .i64 0, .slice none 0 0, .int .i64 0] 37 (0, 0))) := Lib.hid (fun w' k => ⟨k.same hb1 (fun x => x), k.same hb2 (fun x => x)⟩)
  have HX := Lib.hid (fun w' (k : Kept (fun _ => False) w2 w') => ha.on (k2.trans k))
  have HCX := Lib.hid hCX
  have HW2 := Lib.hid (And.intro hw2 hq)
  have HK02 := Lib.hid k2
  have HGE : Hid (w.heap.size ≤ q) := Lib.hid (by omega)
  have HCL := Lib.hid (fun w' (k : Kept (fun _ => False) w2 w') => pclone_got x aa pa na ac pc nc w' (HX.out w' k) hli)
  have HFI := Lib.hid (fun w' (k : Kept (fun _ => False) w2 w') => histFit_any x.h most _ _ w' (HX.out w' k).hist hok (by have := hli.pl; omega) (by have := hli.nl; omega))
  rw [hvx] at HCL ⊢
  have HPH : Hid (∀ w', Kept (fun _ => False) w2 w' → w'.rangeAt q 10 (histA x.h (.slice pa x.h.pl.length pc) (.slice na x.h.nl.length nc)).toList) := Lib.hid (fun w' k => range_part (HBX.out w' k).1 10 _ (by rw [HCX.out]; exact pnt_hist x _ _ _))
  have p16 : w2.cell? ⟨q, 16, none⟩ = some (.int .i64 x.flags) := cell_rowZ 16 _ hb1 (by rw [hCX]; rfl)
  have HP2 : Hid (∀ w', Kept (fun _ => False) w2 w' → w'.cell? ⟨q, 2, none⟩ = some (.int .i64 4)) := Lib.hid (fun w' k => cell_rowZ 2 _ (HBX.out w' k).1 (by rw [HCX.out, ← hk]; rfl))
  obtain ⟨HA, hHA⟩ : ∃ a, a = histA x.h (.slice pa x.h.pl.length pc) (.slice na x.h.nl.length nc) := ⟨_, rfl⟩
  rw [histV_A, ← hHA] at HFI
  rw [← hHA] at HPH
  have HIH : Hid ((Try.prog.info? 30).map (·.size) = some HA.size) := Lib.hid (by rw [hHA]; exact hist_info)
  clear hw2 hq k2 hb1 hb2 hvx hCX ha hli hHA hok hk
  have HFG := Lib.hid (fitG_of x.h most)
  obtain ⟨R, hR⟩ : ∃ r, r = (fitG x.h most).1 := ⟨_, rfl⟩
  obtain ⟨E, hE⟩ : ∃ r, r = (fitG x.h most).2 := ⟨_, rfl⟩
  rw [← hR, ← hE] at HFG
  rw [← hR, ← hE]
  clear hR hE
  by_cases h1 : x.flags = 0
  case neg =>
    rw [if_neg h1, if_neg h1]
    have q1 : (x.flags != 0) = true := by simpa using h1
    clear h1
    go_enter Try.func70, Try.ntmps70
    go_upto_region 1 with fail
    rw [← HW2.out.1, ← HW2.out.2]
    go_wp2_with (first
      | (refine wpList_store_row rfl 37 (.tmp 4) _ rfl (q + 1) #[.string { data := #[] }, .slice none 0 0, .int .i64 0, .int .i64 0, .bool false, .int .i64 0, .int .i64 0, .int .i64 0, .int .u64 0, .int .u64 0, .int .i64 0, .int .u64 0, .int .i64 0, .slice none 0 0, .int .i64 0, .slice none 0 0, .int .i64 0] rfl rfl 37 _ (HBX.out w2 (Kept.refl _ _)).2 point_info rfl (pntC_one' (x := zeroPt) (ones_slices _ _ _ _ _ _ _ _ _)) ?_)
      | fail)
    refine bodyPost_ret (results_ct Try.results70 _ _ (q + 1) 37 _ (0, 0) _ rfl (setRow_heap _ _ _ _ _ _ (HBX.out w2 (Kept.refl _ _)).2) Try.underlying37 rfl point_info) rfl ?_
    exact ⟨_, rfl, GotP.zero (HK02.out.newer (setRow_keptW _ _ _) (fun i e => by have := HGE.out; omega))⟩
  rw [if_pos h1, if_pos h1]
  rw [h1] at p16
  clear h1
  by_cases hE : E = 0
  case neg =>
    rw [if_neg hE]
    obtain ⟨n, hn⟩ : ∃ n : Int, n = ((E : Nat) : Int) := ⟨_, rfl⟩
    have HNE : Hid (n = ((E : Nat) : Int)) := Lib.hid hn
    have q1 : (n != 0) = true := by rw [bne_iff_ne]; omega
    clear hn hE
    go_enter Try.func70, Try.ntmps70
    go_upto_region 1 with fail
    rw [← HW2.out.1, ← HW2.out.2]
    go_upto_region 3 with fail
    go_wp2_with (first
      | (refine wpList_load_row rfl 37 (.tmp 2) rfl q rfl 37 _ (0, 0) _ (HBX.out w2 (Kept.refl _ _)).1 Try.underlying37 rfl HIX.out ?_)
      | fail)
    refine (HCL.out w2 (Kept.refl _ _)).mono ?_
    rintro e w3 ⟨v, rfl, g3⟩
    have HG3 := Lib.hid g3
    obtain ⟨a1, a2, a3, c1, c2, c3, rfl, n3⟩ := g3
    unfold pntV
    obtain ⟨CY, hCY⟩ : ∃ a, a = pntC x (.slice a1 x.L.length c1) (.slice a2 x.h.pl.length c2) (.slice a3 x.h.nl.length c3) := ⟨_, rfl⟩
    rw [← hCY]
    have HCY := Lib.hid hCY
    have HIY : Hid ((Try.prog.info? 37).map (·.size) = some CY.size) := Lib.hid (point_info.trans (by rw [hCY]; rfl))
    have HSY : Hid (CY.size = 17 ∧ CY.all (·.oneCell') = true) := Lib.hid (by rw [hCY]; exact ⟨rfl, pntC_one' (ones_slices _ _ _ _ _ _ _ _ _)⟩)
    have HN3 := Lib.hid n3
    have HK3 := Lib.hid n3.at_.kept
    clear n3 hCY HG3
    obtain ⟨g6, hg6⟩ : ∃ g, g = w3.heap.size := ⟨_, rfl⟩
    have HG6 := Lib.hid hg6
    clear hg6
    go_upto_region 4 with (refine wpList_store_box rfl 37 (.tmp 6) _ rfl w3 _ CY 37 rfl rfl rfl HIY.out (by rw [HSY.out.1]; rfl) HSY.out.2 ?_; intro w4 hb4 k4; have HB4 : Hid (w4.heap[g6]? = some (.cells CY 37 (0, 0))) := Lib.hid (by rw [HG6.out]; exact hb4); have HK34 := Lib.hid k4; have HK4 := Lib.hid (HK3.out.trans k4); clear hb4 k4)
    rw [← HG6.out]
    have p2 := HP2.out w4 HK4.out
    go_upto_region 6 with fail
    clear p2
    go_wp2_with (first
      | (refine wpList_load_part rfl 30 (.tmp 20) rfl q 10 rfl HA _ (HPH.out w4 HK4.out) Try.underlying30 rfl HIH.out ?_)
      | fail)
    refine (HFI.out w4 HK4.out).mono ?_
    rintro e w5 ⟨R', E', hf, pv, nv, rfl, m1, m2, _⟩
    obtain ⟨rfl, rfl⟩ := FitOf.uniq HFG.out hf
    clear hf
    obtain ⟨d2, d3, e2, e3, rfl, rfl, hn⟩ := HN.of m1 m2
    clear m1 m2
    have HHN := Lib.hid hn
    have HK45 := Lib.hid hn.mp.kept
    clear hn
    have HK5 := Lib.hid (HK4.out.trans HK45.out)
    rw [histV_A]
    obtain ⟨RA, hRA⟩ : ∃ a, a = histA R (.slice d2 R.pl.length e2) (.slice d3 R.nl.length e3) := ⟨_, rfl⟩
    rw [← hRA]
    have HRA := Lib.hid hRA
    have HIR : Hid ((Try.prog.info? 30).map (·.size) = some RA.size ∧ RA.size = 6 ∧ RA.all (·.oneCell') = true) := Lib.hid (by rw [hRA]; exact ⟨hist_info, rfl, histC_one ⟨rfl, rfl⟩⟩)
    clear hRA
    obtain ⟨g7, hg7⟩ : ∃ g, g = w5.heap.size := ⟨_, rfl⟩
    have HG7 := Lib.hid hg7
    clear hg7
    go_upto_region 7 with (refine wpList_store_box rfl 30 (.tmp 7) _ rfl w5 _ RA 30 rfl rfl rfl HIR.out.1 (by rw [HIR.out.2.1]; rfl) HIR.out.2.2 ?_; intro w6 hb6 k6; have HB6 : Hid (w6.heap[g7]? = some (.cells RA 30 (0, 0))) := Lib.hid (by rw [HG7.out]; exact hb6); have HK56 := Lib.hid k6; have HK6 := Lib.hid (HK5.out.trans k6); clear hb6 k6)
    rw [← HG7.out]
    rw [← HNE.out]
    go_wp2_with (first
      | (refine wpList_store_row rfl 37 (.tmp 4) _ rfl (q + 1) #[.string { data := #[] }, .slice none 0 0, .int .i64 0, .int .i64 0, .bool false, .int .i64 0, .int .i64 0, .int .i64 0, .int .u64 0, .int .u64 0, .int .i64 0, .int .u64 0, .int .i64 0, .slice none 0 0, .int .i64 0, .slice none 0 0, .int .i64 0] rfl rfl 37 _ (HBX.out w6 HK6.out).2 point_info rfl (pntC_one' (x := zeroPt) (ones_slices _ _ _ _ _ _ _ _ _)) ?_)
      | fail)
    refine bodyPost_ret (results_ct Try.results70 _ _ (q + 1) 37 _ (0, 0) _ rfl (setRow_heap _ _ _ _ _ _ (HBX.out w6 HK6.out).2) Try.underlying37 rfl point_info) rfl ?_
    exact ⟨_, by rw [← HNE.out]; rfl, GotP.zero ((HK02.out.trans HK6.out).newer (setRow_keptW _ _ _) (fun i e => by have := HGE.out; omega))⟩
  subst hE
  rw [if_pos rfl]
  go_enter Try.func70, Try.ntmps70
  go_upto_region 1 with fail
  rw [← HW2.out.1, ← HW2.out.2]
  go_upto_region 3 with fail
  go_wp2_with (first
    | (refine wpList_load_row rfl 37 (.tmp 2) rfl q rfl 37 _ (0, 0) _ (HBX.out w2 (Kept.refl _ _)).1 Try.underlying37 rfl HIX.out ?_)
    | fail)
  refine (HCL.out w2 (Kept.refl _ _)).mono ?_
  rintro e w3 ⟨v, rfl, g3⟩
  have HG3 := Lib.hid g3
  obtain ⟨a1, a2, a3, c1, c2, c3, rfl, n3⟩ := g3
  unfold pntV
  obtain ⟨CY, hCY⟩ : ∃ a, a = pntC x (.slice a1 x.L.length c1) (.slice a2 x.h.pl.length c2) (.slice a3 x.h.nl.length c3) := ⟨_, rfl⟩
  rw [← hCY]
  have HCY := Lib.hid hCY
  have HIY : Hid ((Try.prog.info? 37).map (·.size) = some CY.size) := Lib.hid (point_info.trans (by rw [hCY]; rfl))
  have HSY : Hid (CY.size = 17 ∧ CY.all (·.oneCell') = true) := Lib.hid (by rw [hCY]; exact ⟨rfl, pntC_one' (ones_slices _ _ _ _ _ _ _ _ _)⟩)
  have HN3 := Lib.hid n3
  have HK3 := Lib.hid n3.at_.kept
  clear n3 hCY HG3
  obtain ⟨g6, hg6⟩ : ∃ g, g = w3.heap.size := ⟨_, rfl⟩
  have HG6 := Lib.hid hg6
  clear hg6
  go_upto_region 4 with (refine wpList_store_box rfl 37 (.tmp 6) _ rfl w3 _ CY 37 rfl rfl rfl HIY.out (by rw [HSY.out.1]; rfl) HSY.out.2 ?_; intro w4 hb4 k4; have HB4 : Hid (w4.heap[g6]? = some (.cells CY 37 (0, 0))) := Lib.hid (by rw [HG6.out]; exact hb4); have HK34 := Lib.hid k4; have HK4 := Lib.hid (HK3.out.trans k4); clear hb4 k4)
  rw [← HG6.out]
  have p2 := HP2.out w4 HK4.out
  go_upto_region 6 with fail
  clear p2
  go_wp2_with (first
    | (refine wpList_load_part rfl 30 (.tmp 20) rfl q 10 rfl HA _ (HPH.out w4 HK4.out) Try.underlying30 rfl HIH.out ?_)
    | fail)
  refine (HFI.out w4 HK4.out).mono ?_
  rintro e w5 ⟨R', E', hf, pv, nv, rfl, m1, m2, _⟩
  obtain ⟨rfl, rfl⟩ := FitOf.uniq HFG.out hf
  clear hf
  obtain ⟨d2, d3, e2, e3, rfl, rfl, hn⟩ := HN.of m1 m2
  clear m1 m2
  have HHN := Lib.hid hn
  have HK45 := Lib.hid hn.mp.kept
  clear hn
  have HK5 := Lib.hid (HK4.out.trans HK45.out)
  rw [histV_A]
  obtain ⟨RA, hRA⟩ : ∃ a, a = histA R (.slice d2 R.pl.length e2) (.slice d3 R.nl.length e3) := ⟨_, rfl⟩
  rw [← hRA]
  have HRA := Lib.hid hRA
  have HIR : Hid ((Try.prog.info? 30).map (·.size) = some RA.size ∧ RA.size = 6 ∧ RA.all (·.oneCell') = true) := Lib.hid (by rw [hRA]; exact ⟨hist_info, rfl, histC_one ⟨rfl, rfl⟩⟩)
  clear hRA
  obtain ⟨g7, hg7⟩ : ∃ g, g = w5.heap.size := ⟨_, rfl⟩
  have HG7 := Lib.hid hg7
  clear hg7
  go_upto_region 7 with (refine wpList_store_box rfl 30 (.tmp 7) _ rfl w5 _ RA 30 rfl rfl rfl HIR.out.1 (by rw [HIR.out.2.1]; rfl) HIR.out.2.2 ?_; intro w6 hb6 k6; have HB6 : Hid (w6.heap[g7]? = some (.cells RA 30 (0, 0))) := Lib.hid (by rw [HG7.out]; exact hb6); have HK56 := Lib.hid k6; have HK6 := Lib.hid (HK5.out.trans k6); clear hb6 k6)
  rw [← HG7.out]
  have HB46 : Hid (w6.heap[g6]? = some (.cells CY 37 (0, 0))) := Lib.hid ((HK45.out.trans HK56.out).same HB4.out (fun x => x))
  go_upto_region 10 with (first | (refine wpList_load_row rfl 30 (.tmp 7) rfl g7 rfl 30 _ (0, 0) _ HB6.out Try.underlying30 rfl HIR.out.1 ?_) | (refine wpList_store_mid rfl 30 (.tmp 31) _ rfl g6 10 RA rfl rfl (by rw [HIR.out.2.1]; exact box_there HB46.out 10 6 (by rw [HSY.out.1]; decide)) HIR.out.1 HIR.out.2.2 ?_))
  obtain ⟨w7, hw7⟩ : ∃ w', w' = w6.setCells g6 10 RA.toList := ⟨_, rfl⟩
  rw [← hw7]
  have h7 := setCells6 HB46.out 10 (.int .i64 R.sc) (.int .u64 (R.ze : Int)) (.int .i64 R.po) (.slice d2 R.pl.length e2) (.int .i64 R.no) (.slice d3 R.nl.length e3)
  rw [show [Value.int .i64 R.sc, .int .u64 (R.ze : Int), .int .i64 R.po, .slice d2 R.pl.length e2, .int .i64 R.no, .slice d3 R.nl.length e3] = RA.toList by rw [HRA.out]; rfl, ← hw7] at h7
  obtain ⟨CZ, hCZ⟩ : ∃ a, a = pntC { x with h := R } (.slice a1 x.L.length c1) (.slice d2 R.pl.length e2) (.slice d3 R.nl.length e3) := ⟨_, rfl⟩
  have HZ7 : Hid (w7.heap[g6]? = some (.cells CZ 37 (0, 0))) := Lib.hid (by rw [h7.1, hCZ, HCY.out]; rfl)
  have HK67 := Lib.hid h7.2
  have HIZ : Hid ((Try.prog.info? 37).map (·.size) = some CZ.size ∧ CZ.size = 17 ∧ CZ.all (·.oneCell') = true) := Lib.hid (by rw [hCZ]; exact ⟨point_info, rfl, pntC_one' (ones_slices _ _ _ _ _ _ _ _ _)⟩)
  have HCZ := Lib.hid hCZ
  have HL6 : Hid (w2.heap.size ≤ g6 ∧ q + 1 < w2.heap.size) := Lib.hid ⟨by have := HG6.out; have := HK3.out.size; omega, (Array.getElem?_eq_some_iff.1 (HBX.out w2 (Kept.refl _ _)).2).1⟩
  have HBQ : Hid (w7.heap[q + 1]? = some (.cells #[.string { data := #[] }, .slice none 0 0, .int .i64 0, .int .i64 0, .bool false, .int .i64 0, .int .i64 0, .int .i64 0, .int .u64 0, .int .u64 0, .int .i64 0, .int .u64 0, .int .i64 0, .slice none 0 0, .int .i64 0, .slice none 0 0, .int .i64 0] 37 (0, 0))) := Lib.hid (HK67.out.same (HBX.out w6 HK6.out).2 (by have := HL6.out; omega))
  clear hw7 h7 hCZ
  go_wp2_with (first
    | (refine wpList_load_row rfl 37 (.tmp 6) rfl g6 rfl 37 _ (0, 0) _ HZ7.out Try.underlying37 rfl HIZ.out.1 ?_)
    | (refine wpList_store_row rfl 37 (.tmp 4) _ rfl (q + 1) CZ rfl rfl 37 _ HBQ.out HIZ.out.1 (by rw [HIZ.out.2.1]; rfl) HIZ.out.2.2 ?_)
    | fail)
  refine bodyPost_ret (results_ct Try.results70 _ _ (q + 1) 37 _ (0, 0) _ rfl (setRow_heap _ _ _ _ _ _ HBQ.out) Try.underlying37 rfl HIZ.out.1) rfl ?_
  have kk : Kept (fun k => k = q + 1) w7 (w7.setRow (q + 1) CZ) := setRow_keptW _ _ _
  have hnew : NewP w2 w6 { x with h := R } a1 d2 d3 c1 e2 e3 := ⟨HN3.out.at_.on ((HK4.out.trans HK45.out).trans HK56.out |> fun _ => (by exact (HK34.out.trans HK45.out).trans HK56.out)), (HHN.out.mp.on HK56.out).down HK4.out, (HHN.out.mn.on HK56.out).down HK4.out⟩
  have n7 := hnew.set HB46.out (by decide) (by decide) HL6.out.1 HK67.out
  have n8 := (n7.down HK02.out).set HBQ.out (by decide) (by decide) (by have := HGE.out; omega) kk
  exact ⟨_, rfl, a1, d2, d3, c1, e2, e3, by rw [HCZ.out]; rfl, n8⟩
/-- What Fitted answers of any point. -/
def fitPE (x : Pnt) (most : Int) : Pnt × Nat := if x.flags = 0 then (if x.kind = 4 then (if (fitG x.h most).2 = 0 then ({ x with h := (fitG x.h most).1 }, 0) else (zeroPt, (fitG x.h most).2)) else (x, 0)) else (zeroPt, 3)
theorem fittedF_any (x : Pnt) (aa pa na : Option Addr) (ac pc nc : Nat) (most : Int) (w : World) (ha : PntAt w x aa ac (.slice pa x.h.pl.length pc) (.slice na x.h.nl.length nc)) (hli : x.light) (hok : x.h.ok) :
    Calls Try.prog 70 #[pntV x (.slice aa x.L.length ac) (.slice pa x.h.pl.length pc) (.slice na x.h.nl.length nc), .int .i64 most] w fun e w' => ∃ v, e = .returned (.tuple #[v, .int .i64 (((fitPE x most).2 : Nat) : Int)]) ∧ GotP w w' (fitPE x most).1 v := by
  by_cases hk : x.kind = 4
  · have h := fitted4_any x aa pa na ac pc nc most w ha hli hok hk
    have e1 : (if x.flags = 0 then (((fitG x.h most).2 : Nat) : Int) else 3) = (((fitPE x most).2 : Nat) : Int) := by
      unfold fitPE; rw [if_pos hk]; split
      · split
        · rename_i h; rw [h]
        · rfl
      · rfl
    have e2 : (if x.flags = 0 then (if (fitG x.h most).2 = 0 then { x with h := (fitG x.h most).1 } else zeroPt) else zeroPt) = (fitPE x most).1 := by
      unfold fitPE; rw [if_pos hk]; split
      · split <;> rfl
      · rfl
    rw [e1, e2] at h
    exact h
  · have h := fitted_any x aa pa na ac pc nc most w ha hli hk
    have e1 : (if x.flags = 0 then (0 : Int) else 3) = (((fitPE x most).2 : Nat) : Int) := by unfold fitPE; rw [if_neg hk]; split <;> rfl
    have e2 : (if x.flags = 0 then x else zeroPt) = (fitPE x most).1 := by unfold fitPE; rw [if_neg hk]; split <;> rfl
    rw [e1, e2] at h
    exact h
theorem takenF_cases (x : Pnt) (temp most : Int) : (chk x ≠ 0 ∧ takenF x temp most = (zeroPt, chk x)) ∨ (chk x = 0 ∧ x.temp ≠ temp ∧ takenF x temp most = (zeroPt, 14)) ∨ (chk x = 0 ∧ x.temp = temp ∧ takenF x temp most = fitPE x most) := by
  unfold takenF takenE fitPE
  by_cases h1 : chk x = 0
  · by_cases h2 : x.temp = temp
    · exact .inr (.inr ⟨h1, h2, by by_cases h3 : x.flags = 0 <;> simp [h1, h2, h3]⟩)
    · exact .inr (.inl ⟨h1, h2, by simp [h1, h2]⟩)
  · exact .inl ⟨h1, by simp [h1]⟩
set_option maxHeartbeats 4000000 in
set_option maxRecDepth 100000 in
theorem takenA_any (x : Pnt) (aa pa na : Option Addr) (ac pc nc : Nat) (temp most : Int) (w : World) (ha : PntAt w x aa ac (.slice pa x.h.pl.length pc) (.slice na x.h.nl.length nc)) (hok : x.ok) (hli : x.light) :
    Calls Try.prog 48 #[pntV x (.slice aa x.L.length ac) (.slice pa x.h.pl.length pc) (.slice na x.h.nl.length nc), .int .i64 temp, .int .i64 most] w fun e w' => ∃ v, e = .returned (.tuple #[v, .int .i64 (((takenF x temp most).2 : Nat) : Int)]) ∧ GotP w w' (takenF x temp most).1 v := by
  obtain ⟨q, hq⟩ : ∃ q, q = w.heap.size := ⟨_, rfl⟩
  obtain ⟨CX, hCX⟩ : ∃ a, a = pntC x (.slice aa x.L.length ac) (.slice pa x.h.pl.length pc) (.slice na x.h.nl.length nc) := ⟨_, rfl⟩
  have hvx : pntV x (.slice aa x.L.length ac) (.slice pa x.h.pl.length pc) (.slice na x.h.nl.length nc) = .agg CX := by rw [hCX]; rfl
  have HIX : Hid ((Try.prog.info? 37).map (·.size) = some CX.size) := Lib.hid (point_info.trans (by rw [hCX]; rfl))
  obtain ⟨w2, hw2⟩ : ∃ w2, w2 = (w.alloc (.cells CX 37)).alloc (.cells #[.string { data := #[] }, .slice none 0 0, .int .i64 0, .int .i64 0, .bool false, .int .i64 0, .int .i64 0, .int .i64 0, .int .u64 0, .int .u64 0, .int .i64 0, .int .u64 0, .int .i64 0, .slice none 0 0, .int .i64 0, .slice none 0 0, .int .i64 0] 37) := ⟨_, rfl⟩
  have k2 : Kept (fun _ => False) w w2 := by rw [hw2]; exact ((Kept.refl _ _).alloc _).alloc _
  have hb1 : w2.heap[q]? = some (.cells CX 37 (0, 0)) := by rw [hw2, hq]; exact ((Kept.refl (fun _ => False) _).alloc _).same (heap_alloc_new w _) (fun x => x)
  have hb2 : w2.heap[q + 1]? = some (.cells #[.string { data := #[] }, .slice none 0 0, .int .i64 0, .int .i64 0, .bool false, .int .i64 0, .int .i64 0, .int .i64 0, .int .u64 0, .int .u64 0, .int .i64 0, .int .u64 0, .int .i64 0, .slice none 0 0, .int .i64 0, .slice none 0 0, .int .i64 0] 37 (0, 0)) := by rw [hw2, hq]; exact box_second2 w _ _
  have HBX : Hid (∀ w', Kept (fun _ => False) w2 w' → w'.heap[q]? = some (.cells CX 37 (0, 0)) ∧ w'.heap[q + 1]? = some (.cells #[.string { data := #[] }, .slice none 0 0, .int .i64 0, .int .i64 0, .bool false, .int .i64 0, .int .i64 0, .int .i64 0, .int .u64 0, .int .u64 0, .int .i64 0, .int .u64 0, .int .i64 0, .slice none 0 0, .int .i64 0, .slice none 0 0, .int .i64 0] 37 (0, 0))) := Lib.hid (fun w' k => ⟨k.same hb1 (fun x => x), k.same hb2 (fun x => x)⟩)
  have HX := Lib.hid (fun w' (k : Kept (fun _ => False) w2 w') => ha.on (k2.trans k))
  have HCX := Lib.hid hCX
  have HW2 := Lib.hid (And.intro hw2 hq)
  have HK02 := Lib.hid k2
  have HGE : Hid (w.heap.size ≤ q) := Lib.hid (by omega)
  have HCH := Lib.hid (fun w' (k : Kept (fun _ => False) w2 w') => pCheck_any x aa pa na ac pc nc w' (HX.out w' k) hok hli)
  have HFT := Lib.hid (fun w' (k : Kept (fun _ => False) w2 w') => fittedF_any x aa pa na ac pc nc most w' (HX.out w' k) hli hok.h)
  rw [hvx] at HCH HFT ⊢
  have HP3 : Hid (∀ w', Kept (fun _ => False) w2 w' → w'.cell? ⟨q, 3, none⟩ = some (.int .i64 x.temp)) := Lib.hid (fun w' k => cell_rowZ 3 _ (HBX.out w' k).1 (by rw [HCX.out]; rfl))
  obtain ⟨n, hn⟩ : ∃ n : Int, n = ((chk x : Nat) : Int) := ⟨_, rfl⟩
  rw [← hn] at HCH
  clear hw2 hq k2 hb1 hb2 hvx hCX ha hli hok
  rcases takenF_cases x temp most with ⟨h1, hte⟩ | ⟨h1, h2, hte⟩ | ⟨h1, h2, hte⟩
  · rw [hte]
    dsimp only
    rw [← hn]
    have q1 : (n != 0) = true := by rw [bne_iff_ne]; omega
    clear h1 hn hte
    go_enter Try.func48, Try.ntmps48
    go_upto_region 1 with fail
    rw [← HW2.out.1, ← HW2.out.2]
    go_wp2_with (first
      | (refine wpList_load_row rfl 37 (.tmp 3) rfl q rfl 37 _ (0, 0) _ (HBX.out w2 (Kept.refl _ _)).1 Try.underlying37 rfl HIX.out ?_)
      | fail)
    refine (HCH.out w2 (Kept.refl _ _)).mono ?_
    rintro e w3 ⟨rfl, k3⟩
    have HK3 := Lib.hid k3
    clear k3
    go_wp2_with (first
      | (refine wpList_store_row rfl 37 (.tmp 6) _ rfl (q + 1) #[.string { data := #[] }, .slice none 0 0, .int .i64 0, .int .i64 0, .bool false, .int .i64 0, .int .i64 0, .int .i64 0, .int .u64 0, .int .u64 0, .int .i64 0, .int .u64 0, .int .i64 0, .slice none 0 0, .int .i64 0, .slice none 0 0, .int .i64 0] rfl rfl 37 _ (HBX.out w3 HK3.out).2 point_info rfl (pntC_one' (x := zeroPt) (ones_slices _ _ _ _ _ _ _ _ _)) ?_)
      | fail)
    refine bodyPost_ret (results_ct Try.results48 _ _ (q + 1) 37 _ (0, 0) _ rfl (setRow_heap _ _ _ _ _ _ (HBX.out w3 HK3.out).2) Try.underlying37 rfl point_info) rfl ?_
    exact ⟨_, rfl, GotP.zero ((HK02.out.trans HK3.out).newer (setRow_keptW _ _ _) (fun i e => by have := HGE.out; omega))⟩
  · rw [hte]
    dsimp only
    have hn0 : n = 0 := by omega
    subst hn0
    have q2 : (x.temp != temp) = true := by rw [bne_iff_ne]; exact h2
    clear h1 h2 hn hte
    go_enter Try.func48, Try.ntmps48
    go_upto_region 1 with fail
    rw [← HW2.out.1, ← HW2.out.2]
    go_wp2_with (first
      | (refine wpList_load_row rfl 37 (.tmp 3) rfl q rfl 37 _ (0, 0) _ (HBX.out w2 (Kept.refl _ _)).1 Try.underlying37 rfl HIX.out ?_)
      | fail)
    refine (HCH.out w2 (Kept.refl _ _)).mono ?_
    rintro e w3 ⟨rfl, k3⟩
    have HK3 := Lib.hid k3
    clear k3
    have p3 := HP3.out w3 HK3.out
    go_wp2_with (first
      | (refine wpList_store_row rfl 37 (.tmp 6) _ rfl (q + 1) #[.string { data := #[] }, .slice none 0 0, .int .i64 0, .int .i64 0, .bool false, .int .i64 0, .int .i64 0, .int .i64 0, .int .u64 0, .int .u64 0, .int .i64 0, .int .u64 0, .int .i64 0, .slice none 0 0, .int .i64 0, .slice none 0 0, .int .i64 0] rfl rfl 37 _ (HBX.out w3 HK3.out).2 point_info rfl (pntC_one' (x := zeroPt) (ones_slices _ _ _ _ _ _ _ _ _)) ?_)
      | fail)
    refine bodyPost_ret (results_ct Try.results48 _ _ (q + 1) 37 _ (0, 0) _ rfl (setRow_heap _ _ _ _ _ _ (HBX.out w3 HK3.out).2) Try.underlying37 rfl point_info) rfl ?_
    exact ⟨_, rfl, GotP.zero ((HK02.out.trans HK3.out).newer (setRow_keptW _ _ _) (fun i e => by have := HGE.out; omega))⟩
  · rw [hte]
    have hn0 : n = 0 := by omega
    subst hn0
    have q2 : (x.temp != temp) = false := by rw [h2]; simp
    obtain ⟨E, hE⟩ : ∃ E : Int, E = (((fitPE x most).2 : Nat) : Int) := ⟨_, rfl⟩
    obtain ⟨X, hX⟩ : ∃ X : Pnt, X = (fitPE x most).1 := ⟨_, rfl⟩
    rw [← hE, ← hX] at HFT
    rw [← hE, ← hX]
    clear h1 h2 hn hte hE hX
    go_enter Try.func48, Try.ntmps48
    go_upto_region 1 with fail
    rw [← HW2.out.1, ← HW2.out.2]
    go_wp2_with (first
      | (refine wpList_load_row rfl 37 (.tmp 3) rfl q rfl 37 _ (0, 0) _ (HBX.out w2 (Kept.refl _ _)).1 Try.underlying37 rfl HIX.out ?_)
      | fail)
    refine (HCH.out w2 (Kept.refl _ _)).mono ?_
    rintro e w3 ⟨rfl, k3⟩
    have HK3 := Lib.hid k3
    clear k3
    have p3 := HP3.out w3 HK3.out
    go_wp2_with (first
      | (refine wpList_load_row rfl 37 (.tmp 3) rfl q rfl 37 _ (0, 0) _ (HBX.out w3 HK3.out).1 Try.underlying37 rfl HIX.out ?_)
      | fail)
    refine (HFT.out w3 HK3.out).mono ?_
    rintro e w4 ⟨v, rfl, g4⟩
    have HG4 := Lib.hid g4
    obtain ⟨CY, rfl, hi, hs, h1⟩ := g4.cells
    have HIY := Lib.hid hi
    have HSY := Lib.hid (And.intro hs h1)
    have HK4 := Lib.hid (HK3.out.trans g4.kept)
    clear g4 hi hs h1
    go_wp2_with (first
      | (refine wpList_store_row rfl 37 (.tmp 6) _ rfl (q + 1) CY rfl rfl 37 _ (HBX.out w4 HK4.out).2 HIY.out (by rw [HSY.out.1]; rfl) HSY.out.2 ?_)
      | fail)
    refine bodyPost_ret (results_ct Try.results48 _ _ (q + 1) 37 _ (0, 0) _ rfl (setRow_heap _ _ _ _ _ _ (HBX.out w4 HK4.out).2) Try.underlying37 rfl HIY.out) rfl ?_
    exact ⟨_, rfl, (HG4.out.down HK3.out).row (q := q + 1) HK02.out (by have := (Array.getElem?_eq_some_iff.1 (HBX.out w2 (Kept.refl _ _)).2).1; omega) (by have := HGE.out; omega) CY⟩
end Go.Proofs.Ytiiibhdohlpodaa

namespace Go.Proofs.Ytiiibhdohlpodaa
open Go.RowKit
attribute [local go_sem ↓] Go.wp_at_zero Go.wp_at_succ
theorem any_take_succU {p : Int → Bool} {L : List Int} {i : Nat} {x : Int} (h : L[i]? = some x) : (L.take (i + 1)).any p = ((L.take i).any p || p x) := by
  rw [List.take_add_one, h]
  simp
/-- A row of floats' bits. -/
def URow (w : World) (ao : Option Addr) (L : List Int) : Prop := L ≠ [] → ∃ g o, ao = some ⟨g, o, none⟩ ∧ ∀ i x, L[i]? = some x → w.cell? ⟨g, o + i, none⟩ = some (.int .u64 x)
structure UTeller (W : World) (L : List Int) (f : FuncId) (caps : Array Value) (p : Int → Bool) : Prop where
  go : ∀ w x, x ∈ L → Kept (fun _ => False) W w → Calls Try.prog f (#[.int .u64 x] ++ caps) w fun e w' => e = .returned (.bool (p x)) ∧ Kept (fun _ => False) w w'
  hcf : ∀ (w : World) (args : Array Value), (callFunc f args).run Try.prog w = .ok (.enter f args) w
set_option maxHeartbeats 2000000 in
theorem indexFuncU_any (ao : Option Addr) (c : Nat) (L : List Int) (f : FuncId) (caps : Array Value) (p : Int → Bool) (w : World) (hr : URow w ao L) (hl : L.length ≤ 1000000) (T : UTeller w L f caps p) :
    Calls Try.prog 115 #[.slice ao L.length c, .func (.func f) #[] caps] w fun e w' => (∃ z : Int, e = .returned (.int .i64 z) ∧ decide (0 ≤ z) = L.any p) ∧ Kept (fun _ => False) w w' := by
  have HR := Lib.hid hr
  have HT := Lib.hid T
  have hcf := T.hcf
  have HL := Lib.hid hl
  obtain ⟨n, hn⟩ : ∃ n, n = L.length := ⟨_, rfl⟩
  have HN := Lib.hid hn
  rw [← hn]
  clear hr T hl hn
  go_enter Try.func115, Try.ntmps115
  go_wp2
  go_loopg [8] n (fun g s8 wr => ∃ i : Nat, i ≤ n ∧ g = n - i ∧ s8 = .int .i64 i ∧ (L.take i).any p = false ∧ Kept (fun _ => False) w wr)
  case atStart => exact ⟨0, Nat.zero_le _, rfl, rfl, rfl, Kept.refl _ _⟩
  case round =>
    obtain ⟨i, hin, rfl, rfl, ha, kw⟩ := hrel
    have HA := Lib.hid ha
    have HK := Lib.hid kw
    clear ha kw
    by_cases hd : i < n
    · have hdi : (i : Int) < (n : Int) := by omega
      have hi0 : (0 : Int) ≤ (i : Int) := by omega
      have HD := Lib.hid hd
      have wi : IntKind.i64.wrap ((i : Int) + 1) = ((i + 1 : Nat) : Int) := by rw [IntWalk.i64_in _ ⟨by omega, by have := HL.out; have := HN.out; omega⟩]; omega
      have hiL : i < L.length := by have := HN.out; omega
      obtain ⟨gb, ob, rfl, hrec⟩ := HR.out (by intro e; rw [e] at hiL; simp at hiL)
      have hel := HK.out.cell (hrec i L[i] (List.getElem?_eq_getElem hiL)) (fun x => x)
      have hts := any_take_succU (p := p) (List.getElem?_eq_getElem hiL)
      obtain ⟨P, hP⟩ : ∃ p, p = L[i] := ⟨_, rfl⟩
      rw [← hP] at hel hts
      have hmem : P ∈ L := by rw [hP]; exact List.getElem_mem _
      rw [HA.out, Bool.false_or] at hts
      have HGO := Lib.hid (HT.out.go wr P hmem HK.out)
      obtain ⟨b, hb⟩ : ∃ b, b = p P := ⟨_, rfl⟩
      rw [← hb] at HGO hts
      have HTS := Lib.hid hts
      have HPB := Lib.hid hb
      have HMEM := Lib.hid hmem
      clear hd hin hrec hP hiL hts hb hmem
      go_wp2_with fail
      refine HGO.out.mono ?_
      rintro e w1 ⟨rfl, k1⟩
      have HK1 := Lib.hid (HK.out.trans k1)
      clear k1
      cases b with
      | true =>
        go_wp2
        go_ret
        refine ⟨⟨i, rfl, ?_⟩, HK1.out⟩
        rw [decide_eq_true (by omega)]
        exact (List.any_eq_true.2 ⟨P, HMEM.out, HPB.out.symm⟩).symm
      | false =>
        go_wp2
        go_roundg (n - (i + 1))
        case measure => have := HD.out; omega
        case rel => exact ⟨i + 1, HD.out, rfl, rfl, HTS.out, HK1.out⟩
    · obtain rfl : n = i := by omega
      have ha := HA.out
      rw [HN.out, List.take_length] at ha
      have HA2 := Lib.hid ha
      clear hd ha
      go_wp2
      go_ret
      exact ⟨⟨-1, rfl, by rw [HA2.out]; rfl⟩, HK.out⟩
theorem containsFuncU_any (ao : Option Addr) (c : Nat) (L : List Int) (f : FuncId) (caps : Array Value) (p : Int → Bool) (w : World) (hr : URow w ao L) (hl : L.length ≤ 1000000) (T : UTeller w L f caps p) :
    Calls Try.prog 95 #[.slice ao L.length c, .func (.func f) #[] caps] w fun e w' => e = .returned (.bool (L.any p)) ∧ Kept (fun _ => False) w w' := by
  have HI := Lib.hid (indexFuncU_any ao c L f caps p w hr hl T)
  obtain ⟨n, hn⟩ : ∃ n, n = L.length := ⟨_, rfl⟩
  obtain ⟨b, hb⟩ : ∃ b, b = L.any p := ⟨_, rfl⟩
  rw [← hb] at HI ⊢
  rw [← hn] at HI ⊢
  clear hr hl T hn hb
  go_enter Try.func95, Try.ntmps95
  go_wp2_with fail
  refine HI.out.mono ?_
  rintro e w1 ⟨⟨z, rfl, hz⟩, k1⟩
  clear HI
  cases b with
  | true =>
    have hz2 : (0 : Int) ≤ z := of_decide_eq_true hz
    go_wp2
    go_ret
    exact ⟨rfl, k1⟩
  | false =>
    have hz2 : ¬ (0 : Int) ≤ z := of_decide_eq_false hz
    go_wp2
    go_ret
    exact ⟨rfl, k1⟩
theorem enterFin15 (w : World) (args : Array Value) : (callFunc 118 args).run Try.prog w = .ok (.enter 118 args) w := by
  have hb : (Try.f118).body.isSome = true := by kernel_rfl
  obtain ⟨c, hc⟩ := Option.isSome_iff_exists.1 hb
  have h1 : (Try.f118).name ≠ "runtime.NumGoroutine" := by
    have : ((Try.f118).name == "runtime.NumGoroutine") = false := by kernel_rfl
    simpa using this
  simp [callFunc, Try.func118, h1, hc]
theorem finFn15_any (a : Int) (h : 0 ≤ a ∧ a ≤ 18446744073709551615) (w : World) :
    Calls Try.prog 118 #[.int .u64 a] w fun e w' => e = .returned (.bool (!finI a)) ∧ Kept (fun _ => False) w w' := by
  have HF := Lib.hid (finite_any a h.1 h.2 w)
  go_enter Try.func118, Try.ntmps118
  go_wp2_with fail
  refine HF.out.mono ?_
  rintro e w1 ⟨rfl, rfl⟩
  go_wp2
  go_ret
  exact ⟨rfl, Kept.refl _ _⟩
theorem finAll15_any (ao : Option Addr) (c : Nat) (L : List Int) (w : World) (hr : URow w ao L) (hu : ∀ x ∈ L, 0 ≤ x ∧ x ≤ 18446744073709551615) (hl : L.length ≤ 1000000) :
    Calls Try.prog 110 #[.slice ao L.length c] w fun e w' => e = .returned (.bool (L.all finI)) ∧ Kept (fun _ => False) w w' := by
  have T : UTeller w L 118 #[] (fun x => !finI x) := ⟨fun w' x hx _ => finFn15_any x (hu x hx) w', enterFin15⟩
  have HI := Lib.hid (containsFuncU_any ao c L _ _ _ w hr hl T)
  have he : (!L.any fun x => !finI x) = L.all finI := (List.all_eq_not_any_not ..).symm
  rw [← he]
  obtain ⟨b, hb⟩ : ∃ b, b = L.any fun x => !finI x := ⟨_, rfl⟩
  rw [← hb] at HI ⊢
  obtain ⟨n, hn⟩ : ∃ n, n = L.length := ⟨_, rfl⟩
  rw [← hn] at HI ⊢
  clear hr hl T hn hu he hb
  go_enter Try.func110, Try.ntmps110
  go_wp2_with fail
  refine HI.out.mono ?_
  rintro e w1 ⟨rfl, k1⟩
  go_wp2
  go_ret
  exact ⟨rfl, k1⟩
end Go.Proofs.Ytiiibhdohlpodaa

namespace Go.Proofs.Ytiiibhdohlpodaa
open Go.RowKit
theorem toBits_run (b : Nat) (w : World) : (callFunc 114 #[.float .f64 b]).run Try.prog w = .ok (.value (.int .u64 b)) w := by kernel_rfl
set_option maxHeartbeats 400000 in
theorem odd_any (a : Int) (h0 : 0 ≤ a) (h1 : a ≤ 18446744073709551615) (w : World) :
    Calls Try.prog 121 #[.int .u64 a] w fun e w' => e = .returned (.bool (oddI a)) ∧ w = w' := by
  go_enter Try.func121, Try.ntmps121
  go_wp2
  go_ret
  exact ⟨ret_bool (odd_bits a h0 h1), rfl⟩
set_option maxHeartbeats 400000 in
theorem canon_any (a : Int) (h0 : 0 ≤ a) (h1 : a ≤ 18446744073709551615) (w : World) :
    Calls Try.prog 113 #[.int .u64 a] w fun e w' => e = .returned (.int .u64 (canonI a)) ∧ w = w' := by
  by_cases h : oddI a = true
  · have HC : Hid (canonI a = 9221120237041090561) := if_pos h
    go_enter Try.func113, Try.ntmps113
    go_wp2_with (go_at_call 121; refine (odd_any a h0 h1 _).mono ?_; rintro e w' ⟨rfl, rfl⟩)
    go_ret
    exact ⟨ret_int HC.out.symm, rfl⟩
  · have HC : Hid (canonI a = a) := if_neg h
    have h' : oddI a = false := by simpa using h
    clear h
    go_enter Try.func113, Try.ntmps113
    go_wp2_with (go_at_call 121; refine (odd_any a h0 h1 _).mono ?_; rintro e w' ⟨rfl, rfl⟩)
    go_ret
    exact ⟨ret_int HC.out.symm, rfl⟩
set_option maxHeartbeats 400000 in
theorem told_any (b : Nat) (h1 : (b : Int) ≤ 18446744073709551615) (w : World) :
    Calls Try.prog 94 #[.float .f64 b] w fun e w' => e = .returned (.int .u64 (canonI b)) ∧ w = w' := by
  have hf := toBits_run
  go_enter Try.func94, Try.ntmps94
  go_wp2_with (go_at_call 113; refine (canon_any b (by omega) h1 _).mono ?_; rintro e w' ⟨rfl, rfl⟩)
  go_ret
  exact ⟨rfl, rfl⟩
theorem bits_lt {op : BinOp} {x y r : Nat} (h : floatBits op .f64 x y = some r) : (r : Int) ≤ 18446744073709551615 := by
  have := floatBits_wf h
  simp [Lit.wf] at this
  omega
end Go.Proofs.Ytiiibhdohlpodaa
namespace Go.Proofs.Ytiiibhdohlpodaa
section
variable {P : Program} (w : World)
theorem run_carith_sub (x y : Nat) : ∃ r q, (Op.Complex.arith .sub .f64 x y).run P w = .ok r (w.drewN q) ∧ canonI (r : Int) = subI x y ∧ (r : Int) ≤ 18446744073709551615 := by
  cases h : floatBits .sub .f64 x y with
  | some r => exact ⟨r, 0, run_carith w h, by unfold subI; rw [Int.toNat_natCast, Int.toNat_natCast, h], bits_lt h⟩
  | none =>
    refine ⟨nanOf w x y, 1, ?_, ?_, (nanOf_odd w x y).2⟩
    · unfold floatBits at h
      simp [Op.Complex.arith, Op.floatArith, h, Question.forced, nanOf]
      rfl
    · unfold subI
      rw [Int.toNat_natCast, Int.toNat_natCast, h]
      exact if_pos (nanOf_odd w x y).1
theorem run_csub (t : TypeId) (a b c d : Nat) : ∃ re im q, (binOp .sub t (.complex .f64 a b) (.complex .f64 c d)).run P w = .ok (.complex .f64 re im) (w.drewN q) ∧ canonI (re : Int) = subI a c ∧ canonI (im : Int) = subI b d ∧ (re : Int) ≤ 18446744073709551615 ∧ (im : Int) ≤ 18446744073709551615 := by
  obtain ⟨re, q, h1, h2, h3⟩ := run_carith_sub (P := P) w a c
  obtain ⟨im, r, g1, g2, g3⟩ := run_carith_sub (P := P) (w.drewN q) b d
  refine ⟨re, im, q + r, ?_, h2, g2, h3, g3⟩
  simp [binOp, Op.complexOp, h1, g1]
end
end Go.Proofs.Ytiiibhdohlpodaa
namespace Go.Proofs.Ytiiibhdohlpodaa
open Go.RowKit
attribute [local go_sem ↓] Go.wp_at_zero Go.wp_at_succ
set_option maxHeartbeats 400000 in
theorem phasor_any (a b : Int) (w : World) :
    Calls Try.prog 93 #[.int .u64 a, .int .u64 b] w fun e w' => e = .returned (.complex .f64 a.toNat b.toNat) ∧ w = w' := by
  go_enter Try.func93, Try.ntmps93
  go_wp2_with (go_at_call 68; refine (float_any _ _).mono ?_; rintro e w' ⟨rfl, rfl⟩)
  go_ret
  exact ⟨rfl, rfl⟩
set_option maxHeartbeats 1000000 in
theorem subPhasor_any (a b c d : Int) (w : World) :
    Calls Try.prog 109 #[.int .u64 a, .int .u64 b, .int .u64 c, .int .u64 d] w fun e w' => Drawn w w' (e = .returned (.tuple #[.int .u64 (subI a c), .int .u64 (subI b d)])) := by
  obtain ⟨re, im, q, hrun, h1, h2, h3, h4⟩ := run_csub (P := Try.prog) w 118 a.toNat b.toNat c.toNat d.toNat
  have e1 : subI a c = subI ((a.toNat : Nat) : Int) ((c.toNat : Nat) : Int) := by unfold subI; rw [Int.toNat_natCast, Int.toNat_natCast]
  have e2 : subI b d = subI ((b.toNat : Nat) : Int) ((d.toNat : Nat) : Int) := by unfold subI; rw [Int.toNat_natCast, Int.toNat_natCast]
  have H1 : Hid (canonI (re : Int) = subI a c) := Lib.hid (by rw [e1]; exact h1)
  have H2 : Hid (canonI (im : Int) = subI b d) := Lib.hid (by rw [e2]; exact h2)
  have T1 := Lib.hid (told_any re h3)
  have T2 := Lib.hid (told_any im h4)
  rw [H1.out] at T1
  rw [H2.out] at T2
  clear h1 h2 h3 h4 e1 e2 H1 H2
  go_enter Try.func109, Try.ntmps109
  go_wp2_with (first
    | (go_at_call 93; refine (phasor_any _ _ _).mono ?_; rintro e w' ⟨rfl, rfl⟩)
    | (go_at_call_of 94 re; refine (T1.out _).mono ?_; rintro e w' ⟨rfl, rfl⟩)
    | (go_at_call_of 94 im; refine (T2.out _).mono ?_; rintro e w' ⟨rfl, rfl⟩))
  go_ret2
  exact ⟨rfl, q, rfl⟩
end Go.Proofs.Ytiiibhdohlpodaa

namespace Go.Proofs.Ytiiibhdohlpodaa
open Go.RowKit
attribute [local go_sem ↓] Go.wp_at_zero Go.wp_at_succ
section
variable {w w' : World} {q g8 : Nat} {CS CX SX CX' SX' : Array Value}
end
theorem urow_new (w : World) (l : List Int) : URow (w.alloc (.cells (l.map (Value.int .u64)).toArray 25)) (some ⟨w.heap.size, 0, none⟩) l := by
  intro _
  refine ⟨_, _, rfl, fun i x hx => ?_⟩
  have h := heap_alloc_new w (.cells (l.map (Value.int .u64)).toArray 25)
  rw [Nat.zero_add]
  exact cell_rowZ i _ h (by simp [hx])
def U64I (a : Int) : Prop := 0 ≤ a ∧ a ≤ 18446744073709551615
theorem canonI_u64 {a : Int} (h : U64I a) : U64I (canonI a) := by
  unfold canonI U64I at *
  split
  · exact ⟨by decide, by decide⟩
  · exact h
theorem addI_u64 (a b : Int) : U64I (addI a b) := by
  unfold addI
  cases h : floatBits .add .f64 a.toNat b.toNat with
  | none => exact ⟨by decide, by decide⟩
  | some r => exact canonI_u64 ⟨by omega, bits_lt h⟩
theorem subI_u64 (a b : Int) : U64I (subI a b) := by
  unfold subI
  cases h : floatBits .sub .f64 a.toNat b.toNat with
  | none => exact ⟨by decide, by decide⟩
  | some r => exact canonI_u64 ⟨by omega, bits_lt h⟩
end Go.Proofs.Ytiiibhdohlpodaa

namespace Go.Proofs.Ytiiibhdohlpodaa
open Go.RowKit
theorem chk_parts {x : Pnt} (h : chk x = 0) : checkE x.name x.L = 0 ∧ kindB x = true ∧ ¬ ((x.mono = true ∧ sumB x = false) ∨ timesB x = false) ∧ ¬ (ownB x = false ∨ x.flags < 0 ∨ 31 < x.flags) ∧ ¬ (x.mono = true ∧ finI x.re = false) ∧ ¬ (x.mono = true ∧ (x.whole < 0 ∨ lessI x.re 0 = true)) ∧ x.h.err = 0 := by
  unfold chk at h
  by_cases h1 : checkE x.name x.L ≠ 0
  · rw [if_pos h1] at h; exact absurd h h1
  rw [if_neg h1] at h
  by_cases h2 : kindB x = false
  · rw [if_pos h2] at h; omega
  rw [if_neg h2] at h
  by_cases h3 : (x.mono = true ∧ sumB x = false) ∨ timesB x = false
  · rw [if_pos h3] at h; omega
  rw [if_neg h3] at h
  by_cases h4 : ownB x = false ∨ x.flags < 0 ∨ 31 < x.flags
  · rw [if_pos h4] at h; omega
  rw [if_neg h4] at h
  by_cases h5 : x.mono = true ∧ finI x.re = false
  · rw [if_pos h5] at h; omega
  rw [if_neg h5] at h
  by_cases h6 : x.mono = true ∧ (x.whole < 0 ∨ lessI x.re 0 = true)
  · rw [if_pos h6] at h; omega
  rw [if_neg h6] at h
  exact ⟨Decidable.not_not.1 h1, by simpa using h2, h3, h4, h5, h6, h⟩
theorem chk_of {x : Pnt} (h1 : checkE x.name x.L = 0) (h2 : kindB x = true) (h3 : ¬ ((x.mono = true ∧ sumB x = false) ∨ timesB x = false)) (h4 : ¬ (ownB x = false ∨ x.flags < 0 ∨ 31 < x.flags)) (h5 : ¬ (x.mono = true ∧ finI x.re = false)) (h6 : ¬ (x.mono = true ∧ (x.whole < 0 ∨ lessI x.re 0 = true))) (h7 : x.h.err = 0) : chk x = 0 := by
  unfold chk
  rw [if_neg (by omega), if_neg (by rw [h2]; decide), if_neg h3, if_neg h4, if_neg h5, if_neg h6, h7]
theorem takenE_zero {x : Pnt} {t : Int} (h : takenE x t = 0) : chk x = 0 ∧ x.temp = t ∧ x.flags = 0 := by
  unfold takenE at h
  by_cases h1 : chk x ≠ 0
  · rw [if_pos h1] at h; exact absurd h h1
  rw [if_neg h1] at h
  by_cases h2 : x.temp ≠ t
  · rw [if_pos h2] at h; omega
  rw [if_neg h2] at h
  by_cases h3 : x.flags ≠ 0
  · rw [if_pos h3] at h; omega
  exact ⟨Decidable.not_not.1 h1, Decidable.not_not.1 h2, Decidable.not_not.1 h3⟩
end Go.Proofs.Ytiiibhdohlpodaa

namespace Go.Proofs.Ytiiibhdohlpodaa
open Go.RowKit
attribute [local go_sem ↓] Go.wp_at_zero Go.wp_at_succ
section
variable {W w w' : World} {g9 : Nat} {OX OX' : Array Value} {x : Pnt} {a1 a2 a3 : Option Addr} {c1 c2 c3 : Nat}
end
theorem hclone_new (y : Pnt) (w : World) {b1 b2 b3 : Option Addr} {d1 d2 d3 : Nat} {W : World} (n : NewP W w y b1 b2 b3 d1 d2 d3) (l1 : y.h.pl.length ≤ 1000000) (l2 : y.h.nl.length ≤ 1000000) :
    Calls Try.prog 51 #[.agg #[.int .i64 y.h.sc, .int .u64 (y.h.ze : Int), .int .i64 y.h.po, .slice b2 y.h.pl.length d2, .int .i64 y.h.no, .slice b3 y.h.nl.length d3]] w fun e w' =>
      ∃ r2 r3 q2 q3, e = .returned (.agg #[.int .i64 y.h.sc, .int .u64 (y.h.ze : Int), .int .i64 y.h.po, .slice r2 y.h.pl.length q2, .int .i64 y.h.no, .slice r3 y.h.nl.length q3]) ∧ HN w w' y.h r2 r3 q2 q3 := by
  refine (hclone_any y.h (.slice b2 y.h.pl.length d2) (.slice b3 y.h.nl.length d3) w n.pnt.hist l1 l2).mono ?_
  rintro e w' ⟨p, q, rfl, m1, m2⟩
  obtain ⟨r2, r3, q2, q3, rfl, rfl, hn⟩ := HN.of m1 m2
  exact ⟨r2, r3, q2, q3, rfl, hn⟩
theorem HN.nil {W w : World} (k : Kept (fun _ => False) W w) : HN W w zeroHV none none 0 0 := ⟨Mine.nil' _ k, Mine.nil' _ k⟩
/-- What is told of a state's histogram behind a call. -/
def StN (W w : World) (h : HistV) (tp tn : Value) : Prop := ∃ a b c d, tp = .slice a h.pl.length c ∧ tn = .slice b h.nl.length d ∧ HN W w h a b c d
/-- What holds of a point that was taken. -/
structure Fine (f : Pnt) : Prop where
  kd : f.kind = 1 ∨ f.kind = 2 ∨ f.kind = 4 ∨ f.kind = 5
  h : f.h.ok
  lp : f.h.pl.length ≤ 1000000
  ln : f.h.nl.length ≤ 1000000
  re : U64I f.re
  im : U64I f.im
theorem takenF_right {x : Pnt} {t most : Int} (hok : x.ok) (hli : x.light) (h : (takenF x t most).2 = 0) (ht : t = 1 ∨ t = 2 := by decide) : Fine (takenF x t most).1 := by
  obtain ⟨h1, hc⟩ := takenF_zero h
  obtain ⟨hk, htp, hfl⟩ := takenE_zero h1
  have hkb := (chk_parts hk).2.1
  have hkd : x.kind = 1 ∨ x.kind = 2 ∨ x.kind = 4 ∨ x.kind = 5 := by
    unfold kindB at hkb
    simp only [decide_eq_true_eq] at hkb
    rcases hkb with ⟨_, e⟩ | ⟨e, _⟩
    · omega
    · exact e
  rcases hc with ⟨k4, f0, e⟩ | ⟨k4, e⟩
  · obtain ⟨he, b, hb, e2, er, eo, ef⟩ := fitG_right hok.h f0
    have hl := few_err er
    rw [e]
    exact ⟨hkd, eo, hl.1, hl.2, hok.re, hok.im⟩
  · rw [e]
    exact ⟨hkd, hok.h, by have := hli.pl; omega, by have := hli.nl; omega, hok.re, hok.im⟩
end Go.Proofs.Ytiiibhdohlpodaa

