/- Texts put together: what the theorem stands on. -/
import Derived.Test.YtiiibhdohlpodaaZz6
import Derived.Test.YtiiibhdohlpodaaZz7
import Derived.Lib.SmallJoins
import Derived.Great.BuildSlice

namespace Go.Proofs.Ytiiibhdohlpodaa
open Go.ChangeShapes Go.WideShapes Go.ChangeAt Go.RowKit
end Go.Proofs.Ytiiibhdohlpodaa
namespace Go.Proofs.Ytiiibhdohlpodaa
open Go.RowKit
attribute [local go_sem ↓] Go.wp_at_zero Go.wp_at_succ
theorem atP_all (o : Int) (l : List Nat) (i : Int) : atP o l l.length i = atN o l i := rfl
theorem atP_hit (o : Int) (l : List Nat) (m : Nat) : atP o l (m + 1) (o + (m : Int)) = l.getD m 0 := by
  unfold atP
  rw [if_pos (by omega), show (o + (m : Int) - o).toNat = m by omega]
theorem atP_miss (o : Int) (l : List Nat) (m : Nat) (i : Int) (h : o + (m : Int) ≠ i) : atP o l (m + 1) i = atP o l m i := by
  unfold atP
  have : (o ≤ i ∧ i < o + ((m + 1 : Nat) : Int)) ↔ (o ≤ i ∧ i < o + (m : Int)) := by omega
  simp only [this]
end Go.Proofs.Ytiiibhdohlpodaa
namespace Go.Proofs.Ytiiibhdohlpodaa
open Go.RowKit
attribute [local go_sem ↓] Go.wp_at_zero Go.wp_at_succ
end Go.Proofs.Ytiiibhdohlpodaa
namespace Go.Proofs.Ytiiibhdohlpodaa
theorem downH_total (h : HistV) (b : Nat) : (downH h b).total = h.total := by
  unfold HistV.total downH sumN
  simp only [downL_sum]
theorem downH_err (h : HistV) (b : Nat) (he : h.err = 0) (hb : (b : Int) ≤ h.sc + 10) : (downH h b).err = 0 := by
  obtain ⟨h1, h2, h3, h4⟩ := err_light he
  have t := downH_total h b
  unfold HistV.err
  rw [t]
  have e1 : (downH h b).sc = h.sc - (b : Int) := rfl
  have e2 : sideE (downH h b).po (downH h b).pl = 0 := sideE_down _ _ _ h2
  have e3 : sideE (downH h b).no (downH h b).nl = 0 := sideE_down _ _ _ h3
  rw [e1, if_neg (by omega), e2, e3, if_neg (by omega), if_neg (by omega), if_neg (by omega)]
theorem downE_zero {h : HistV} {b : Int} (e : downE h b = 0) : h.err = 0 ∧ 0 ≤ b ∧ b ≤ h.sc + 10 := by
  unfold downE at e
  by_cases h1 : h.err ≠ 0
  · rw [if_pos h1] at e; exact absurd e h1
  · rw [if_neg h1] at e
    by_cases h2 : b < 0 ∨ h.sc + 10 < b
    · rw [if_pos h2] at e; omega
    · exact ⟨by omega, by omega, by omega⟩
theorem downE_mk {h : HistV} {b : Int} (h1 : h.err = 0) (h2 : 0 ≤ b) (h3 : b ≤ h.sc + 10) : downE h b = 0 := by
  unfold downE
  rw [if_neg (by omega), if_neg (by omega)]
theorem downR_ok {h : HistV} {b : Int} (e : downE h b = 0) : downR h b = downH h b.toNat := by unfold downR; rw [if_pos e]
theorem downR_ok' (h : HistV) (b : Int) (hok : h.ok) : (downR h b).ok := by
  unfold downR
  by_cases e : downE h b = 0
  · rw [if_pos e]
    obtain ⟨e1, e2, e3⟩ := downE_zero e
    have he := downH_err h b.toNat e1 (by omega)
    obtain ⟨h1, h2, h3, h4⟩ := err_light he
    have t := total_parts h4
    have s1 := (side_range h2).1
    have s2 := (side_range h3).1
    exact ⟨by omega, hok.ze, by omega, fun x hx => by have := mem_sum hx; omega, by omega, fun x hx => by have := mem_sum hx; omega⟩
  · rw [if_neg e]
    unfold zeroH
    exact ⟨by simp, by simp, by simp, by simp, by simp, by simp⟩
theorem atN_le (o i : Int) (l : List Nat) : atN o l i ≤ l.sum := by
  unfold atN
  split
  · exact getD_sum _ _
  · omega
theorem least_nat (p : Nat → Prop) : ∀ n, p n → ∃ b, b ≤ n ∧ p b ∧ ∀ a, a < b → ¬ p a := by
  intro n
  induction n using Nat.strongRecOn with
  | _ n ih =>
    intro h
    by_cases e : ∃ a, a < n ∧ p a
    · obtain ⟨a, h1, h2⟩ := e
      obtain ⟨b, h3, h4, h5⟩ := ih a h1 h2
      exact ⟨b, by omega, h4, h5⟩
    · exact ⟨n, Nat.le_refl _, h, fun a ha hp => e ⟨a, ha, hp⟩⟩
end Go.Proofs.Ytiiibhdohlpodaa
namespace Go.Proofs.Ytiiibhdohlpodaa
open Go.RowKit
/-- What is wrong with two histograms that are to be brought to one scale; what comes of them. -/
def levE (a b : HistV) : Nat := if a.err ≠ 0 then a.err else b.err
def levS (a b : HistV) : Int := if a.sc ≤ b.sc then a.sc else b.sc
def levX (a b : HistV) : HistV := if levE a b = 0 then downH a (a.sc - levS a b).toNat else zeroH
def levY (a b : HistV) : HistV := if levE a b = 0 then downH b (b.sc - levS a b).toNat else zeroH
def LevOut (w : World) (X Y : HistV) (E : Nat) (e : Ending) (w' : World) : Prop :=
  ∃ p1 n1 p2 n2, e = .returned (.tuple #[histV X p1 n1, histV Y p2 n2, .int .i64 (E : Int)]) ∧ Mine w w' 25 p1 (uvals X.pl) ∧ Mine w w' 25 n1 (uvals X.nl) ∧ Mine w w' 25 p2 (uvals Y.pl) ∧ Mine w w' 25 n2 (uvals Y.nl)
theorem lev_good {a b : HistV} (h1 : a.err = 0) (h2 : b.err = 0) : levE a b = 0 ∧ downE a (a.sc - levS a b) = 0 ∧ downE b (b.sc - levS a b) = 0 ∧ levX a b = downR a (a.sc - levS a b) ∧ levY a b = downR b (b.sc - levS a b) := by
  have e : levE a b = 0 := by unfold levE; rw [if_neg (by omega), h2]
  obtain ⟨⟨a1, a2⟩, _⟩ := err_light h1
  obtain ⟨⟨b1, b2⟩, _⟩ := err_light h2
  have hs : levS a b ≤ a.sc ∧ levS a b ≤ b.sc ∧ -10 ≤ levS a b := by unfold levS; split <;> omega
  have e1 : downE a (a.sc - levS a b) = 0 := downE_mk h1 (by omega) (by omega)
  have e2 : downE b (b.sc - levS a b) = 0 := downE_mk h2 (by omega) (by omega)
  refine ⟨e, e1, e2, ?_, ?_⟩
  · unfold levX downR; rw [if_pos e, if_pos e1]
  · unfold levY downR; rw [if_pos e, if_pos e2]
theorem lev_bad {a b : HistV} (h : levE a b ≠ 0) : levX a b = zeroH ∧ levY a b = zeroH := by unfold levX levY; rw [if_neg h, if_neg h]; exact ⟨rfl, rfl⟩
end Go.Proofs.Ytiiibhdohlpodaa

namespace Go.Proofs.Ytiiibhdohlpodaa
open Go.RowKit
attribute [local go_sem ↓] Go.wp_at_zero Go.wp_at_succ
theorem Try.infoPt : (Try.prog.info? 37).map (fun i => (i.zero, i.size, i.bytes)) = some (some (.agg #[.string { data := #[] }, .slice none 0 0, .int .i64 0, .int .i64 0, .bool false, .int .i64 0, .int .i64 0, .int .i64 0, .int .u64 0, .int .u64 0, .int .i64 0, .int .u64 0, .int .i64 0, .slice none 0 0, .int .i64 0, .slice none 0 0, .int .i64 0]), 17, 192) := by kernel_rfl
theorem results_ttc {P : Program} {fn : Func} {p t u : Tmp} {ty : TypeId} (h : fn.results = #[.tmp t, .tmp u, .cell p ty]) (tmps : Array Value) (w : World) (g : Nat) (t' : TypeId) (cs : Array Value) (fr : Nat × Nat) (d : TypeDesc)
    (hp : tmps.getD p undef = .pointer (some ⟨g, 0, none⟩)) (hg : w.heap[g]? = some (.cells cs t' fr))
    (hu : P.underlying ty = some d) (hd : (match d with | .struct _ | .array _ _ => true | _ => false) = true) (hi : (P.info? ty).map (·.size) = some cs.size) :
    (results fn tmps).run P w = .ok (.tuple #[tmps.getD t undef, tmps.getD u undef, .agg cs]) w := by
  have hp' : tmps[p]?.getD undef = .pointer (some ⟨g, 0, none⟩) := by simpa using hp
  simp [results, h, hp', asAddr, run_loadVar_row w g t' ty cs fr d hg hu hd hi]
theorem step_store_to {P : Program} {ops : Array Oper} {o : Oper} {a : Act} {w : World} {K : Act → World → Prop} {Q : Exit → Act → World → Prop} {E : Prop} (hgd : o.guard = none) (ty : TypeId) (x y : Operand) (ho : o.op = .store ty x y)
    (g : Nat) (cells : Array Value) (hx : a.eval x = .pointer (some ⟨g, 0, none⟩)) (hy : a.eval y = .agg cells) (t : TypeId) (old : Array Value) (hg : w.heap[g]? = some (.cells old t (0, 0))) (hi : (P.info? ty).map (·.size) = some cells.size)
    (hold : old.size = cells.size) (h1 : cells.all (·.oneCell') = true) (h : ∀ w', w'.heap[g]? = some (.cells cells t (0, 0)) → Kept (fun i => i = g) w w' → K (a.put o.dst undef) w') : if Region.wanted o (yielded ops a.tmps) = true then Oper.wp P o a w K Q else E :=
  step_store_row hgd ty x y ho g cells hx hy t old hg hi hold h1 (h _ (setRow_heap _ _ _ _ _ _ hg) (setRow_keptW _ _ _))
theorem box_ne {w : World} {a b : Nat} {c1 c2 : Array Value} {T1 T2 : TypeId} (h1 : w.heap[a]? = some (.cells c1 T1 (0, 0))) (h2 : w.heap[b]? = some (.cells c2 T2 (0, 0))) (hT : T1 ≠ T2) : a ≠ b := by
  intro e
  rw [e, h2] at h1
  injection h1 with h1
  injection h1 with _ h1 _
  exact hT h1.symm
theorem fill_pt (p : PtV) : Instr.fill (fun i => some (i * 17, 17)) ((Array.range (1 * 17)).map ((Value.agg #[.string { data := #[] }, .slice none 0 0, .int .i64 0, .int .i64 0, .bool false, .int .i64 0, .int .i64 0, .int .i64 0, .int .u64 0, .int .u64 0, .int .i64 0, .int .u64 0, .int .i64 0, .slice none 0 0, .int .i64 0, .slice none 0 0, .int .i64 0]).cells[· % (Value.agg #[.string { data := #[] }, .slice none 0 0, .int .i64 0, .int .i64 0, .bool false, .int .i64 0, .int .i64 0, .int .i64 0, .int .u64 0, .int .u64 0, .int .i64 0, .int .u64 0, .int .i64 0, .slice none 0 0, .int .i64 0, .slice none 0 0, .int .i64 0]).cells.size]!)) [(0, .agg p.cs)] = some p.cs := by kernel_rfl
theorem wpList_build_pt {ops : Array Oper} {rest : List Oper} {o : Oper} {a : Act} {w : World} {Q : Exit → Act → World → Prop} (hg : o.guard = none) (x : Operand) (ho : o.op = .buildSlice 22 1 #[(0, x)]) (p : PtV) (hx : a.eval x = .agg p.cs)
    (h : wpList Try.prog ops Q rest (a.put o.dst (.slice (some ⟨w.heap.size, 0, none⟩) 1 1)) (w.alloc (.cells p.cs 37))) : wpList Try.prog ops Q (o :: rest) a w := by
  obtain ⟨i, hi, hz0, hz1, hz2⟩ := info_parts Try.infoPt
  refine wpList_buildSlice hg _ _ 1 _ ho p.cs i _ Try.underlying22 hi hz0 (by rw [hz1]; omega) (by rw [hz1]; omega) ?_ h
  rw [hz1]
  simp only [List.map_toArray, List.map_cons, List.map_nil, hx]
  exact fill_pt p
theorem src_pt (w : World) (p : PtV) : Src Try.prog 17 22 (.slice (some ⟨w.heap.size, 0, none⟩) 1 1) 1 (flatG cellsPt [p]) (w.alloc (.cells p.cs 37)) := by
  have := src_oneG cfPt Try.underlying22 w p
  rw [flatG_one']
  simpa [cellsPt] using this
theorem cs_one (p : PtV) : p.cs.all (·.oneCell') = true := pntC_one' (ones_slices _ _ _ _ _ _ _ _ _)
/-- A row of points that was made. -/
abbrev MineT (W w : World) (v : Value) (L : List PtV) : Prop := MineG cellsPt 17 37 W w v L
/-- Where play stands: the points that were taken, the answers, the state. -/
structure PS (W w : World) (g9 : Nat) (vi vo : Value) (xs : List Pnt) (NS : Array Value) : Prop where
  rows : ∃ I O : List PtV, MineT W w vi I ∧ MineT W w vo O ∧ I.map PtV.x = (playW zeroSt xs).map Prod.fst ∧ O.map PtV.x = (playW zeroSt xs).map Prod.snd
  st : ∃ tp tn, NS = stC (stW zeroSt xs) tp tn ∧ (tp.oneCell' = true ∧ tn.oneCell' = true)
  box : w.heap[g9]? = some (.cells NS 32 (0, 0))
  new : W.heap.size ≤ g9
  ap : ∀ k, vi.ownBlock = some k → vo.ownBlock ≠ some k
end Go.Proofs.Ytiiibhdohlpodaa

namespace Go.Proofs.Ytiiibhdohlpodaa
open Go.RowKit
attribute [local go_sem ↓] Go.wp_at_zero Go.wp_at_succ
/-- A histogram's cells. -/
def histA (h : HistV) (p n : Value) : Array Value := #[.int .i64 h.sc, .int .u64 (h.ze : Int), .int .i64 h.po, p, .int .i64 h.no, n]
theorem histV_A (h : HistV) (p n : Value) : histV h p n = .agg (histA h p n) := rfl
/-- A histogram whose counts are new. -/
structure HN (W w : World) (h : HistV) (a b : Option Addr) (c d : Nat) : Prop where
  mp : Mine W w 25 (.slice a h.pl.length c) (uvals h.pl)
  mn : Mine W w 25 (.slice b h.nl.length d) (uvals h.nl)
theorem HN.on {W w w' : World} {h : HistV} {a b : Option Addr} {c d : Nat} (x : HN W w h a b c d) (k : Kept (fun _ => False) w w') : HN W w' h a b c d := ⟨x.mp.on k, x.mn.on k⟩
theorem HN.down {W0 W w : World} {h : HistV} {a b : Option Addr} {c d : Nat} (x : HN W w h a b c d) (k : Kept (fun _ => False) W0 W) : HN W0 w h a b c d := ⟨x.mp.down k, x.mn.down k⟩
theorem HN.set {W w w' : World} {h : HistV} {a b : Option Addr} {c d k : Nat} {cs : Array Value} {T : TypeId} (x : HN W w h a b c d) (hb : w.heap[k]? = some (.cells cs T (0, 0))) (h2 : 25 ≠ T) (h0 : W.heap.size ≤ k) (kk : Kept (fun i => i = k) w w') : HN W w' h a b c d :=
  ⟨x.mp.keptS kk (fun _ e e2 => own_box x.mp.own hb h2 (e2 ▸ e)) (fun _ e => by rw [e]; exact h0), x.mn.keptS kk (fun _ e e2 => own_box x.mn.own hb h2 (e2 ▸ e)) (fun _ e => by rw [e]; exact h0)⟩
theorem HN.in_ {W w : World} {h : HistV} {a b : Option Addr} {c d : Nat} (x : HN W w h a b c d) (ok : h.ok) : HistIn w h (.slice a h.pl.length c) (.slice b h.nl.length d) :=
  ⟨⟨x.mp.at_, x.mn.at_⟩, ok, fun a' n' c' e => by injection e with _ e2 e3; have := own_capW x.mp.own; rw [uvals_length] at this; omega, fun a' n' c' e => by injection e with _ e2 e3; have := own_capW x.mn.own; rw [uvals_length] at this; omega⟩
theorem HN.of {W w : World} {h : HistV} {p n : Value} (m1 : Mine W w 25 p (uvals h.pl)) (m2 : Mine W w 25 n (uvals h.nl)) : ∃ a b c d, p = .slice a h.pl.length c ∧ n = .slice b h.nl.length d ∧ HN W w h a b c d := by
  obtain ⟨a, c, e1⟩ := m1.slice
  obtain ⟨b, d, e2⟩ := m2.slice
  rw [uvals_length] at e1 e2
  subst e1 e2
  exact ⟨a, b, c, d, rfl, rfl, m1, m2⟩
theorem few_err {h : HistV} (e : h.err = 0) : h.pl.length ≤ 1000000 ∧ h.nl.length ≤ 1000000 := by
  have h := err_light e
  have h1 := sideE_zero h.2.1
  have h2 := sideE_zero h.2.2.1
  omega
theorem wpList_build_v {P : Program} {ops : Array Oper} {rest : List Oper} {o : Oper} {a : Act} {w : World} {Q : Exit → Act → World → Prop} (hg : o.guard = none) (t : TypeId) (x y : Operand) (ho : o.op = .build t #[(0, x), (1, y)]) (v1 v2 v : Value) (hx : a.eval x = v1) (hy : a.eval y = v2)
    (hb : ∀ w, (Instr.build t #[(0, v1), (1, v2)]).run P w = .ok v w) (h : wpList P ops Q rest (a.put o.dst v) w) : wpList P ops Q (o :: rest) a w := by
  refine wpList_plain hg fun K hK => ?_
  have e : (#[(0, x), (1, y)] : Array (Nat × Operand)).map (fun (i, x) => (i, a.eval x)) = #[(0, v1), (1, v2)] := by subst hx hy; simp
  unfold Oper.wp execOp
  simp only [ho, e, Sem.run_bind, hb, Result.andThen_ok]
  exact hK _ _ h
theorem wpList_index_v {P : Program} {ops : Array Oper} {rest : List Oper} {o : Oper} {a : Act} {w : World} {Q : Exit → Act → World → Prop} (hg : o.guard = none) (t : TypeId) (x y : Operand) (ho : o.op = .index t x y) (v1 v2 v : Value) (hx : a.eval x = v1) (hy : a.eval y = v2)
    (hb : ∀ w, (Instr.index t v1 v2).run P w = .ok v w) (h : wpList P ops Q rest (a.put o.dst v) w) : wpList P ops Q (o :: rest) a w := by
  refine wpList_plain hg fun K hK => ?_
  unfold Oper.wp execOp
  simp only [ho, hx, hy, Sem.run_bind, hb, Result.andThen_ok]
  exact hK _ _ h
end Go.Proofs.Ytiiibhdohlpodaa

namespace Go.Proofs.Ytiiibhdohlpodaa
open Go.RowKit
attribute [local go_sem ↓] Go.wp_at_zero Go.wp_at_succ
theorem lev_bad_out {w w' : World} {a b : HistV} {E : Nat} (hE : levE a b = E) (h0 : E ≠ 0) (k : Kept (fun _ => False) w w') : LevOut w (levX a b) (levY a b) (levE a b) (.returned (.tuple #[.agg #[.int .i64 0, .int .u64 0, .int .i64 0, .slice none 0 0, .int .i64 0, .slice none 0 0], .agg #[.int .i64 0, .int .u64 0, .int .i64 0, .slice none 0 0, .int .i64 0, .slice none 0 0], .int .i64 (E : Int)])) w' := by
  obtain ⟨e1, e2⟩ := lev_bad (a := a) (b := b) (by omega)
  rw [e1, e2, hE]
  exact ⟨.slice none 0 0, .slice none 0 0, .slice none 0 0, .slice none 0 0, rfl, Mine.nil' _ k, Mine.nil' _ k, Mine.nil' _ k, Mine.nil' _ k⟩
set_option maxHeartbeats 16000000 in
set_option maxRecDepth 100000 in
theorem foldLevel_any (a b : HistV) (ap an bp bn : Value) (w : World) (ha : HistAt w a ap an) (hb : HistAt w b bp bn) (oka : a.ok) (okb : b.ok) (la1 : a.pl.length ≤ 1000000) (la2 : a.nl.length ≤ 1000000) (lb1 : b.pl.length ≤ 1000000) (lb2 : b.nl.length ≤ 1000000) :
    Calls Try.prog 44 #[histV a ap an, histV b bp bn] w (LevOut w (levX a b) (levY a b) (levE a b)) := by
  obtain ⟨⟨ao, c, rfl⟩, a1, c1, rfl⟩ := ha.sl
  obtain ⟨⟨bo, d, rfl⟩, b1, d1, rfl⟩ := hb.sl
  obtain ⟨q, hq⟩ : ∃ q, q = w.heap.size := ⟨_, rfl⟩
  have HCA := Lib.hid fun w' (k : Kept (fun _ => False) w w') => histCheck_any a _ _ w' (ha.on k) oka la1 la2
  have HCB := Lib.hid fun w' (k : Kept (fun _ => False) w w') => histCheck_any b _ _ w' (hb.on k) okb lb1 lb2
  have HDA := Lib.hid fun w' (v : Int) (hv : I64 v) (k : Kept (fun _ => False) w w') => histDown_any a v _ _ w' (ha.on k) oka la1 la2 hv
  have HDB := Lib.hid fun w' (v : Int) (hv : I64 v) (k : Kept (fun _ => False) w w') => histDown_any b v _ _ w' (hb.on k) okb lb1 lb2 hv
  rw [histV_A] at HCA HCB HDA HDB
  rw [histV_A, histV_A]
  obtain ⟨CA, hCA⟩ : ∃ x, x = histA a (.slice ao a.pl.length c) (.slice a1 a.nl.length c1) := ⟨_, rfl⟩
  obtain ⟨CB, hCB⟩ : ∃ x, x = histA b (.slice bo b.pl.length d) (.slice b1 b.nl.length d1) := ⟨_, rfl⟩
  obtain ⟨AR, hAR⟩ : ∃ x : Array Value, x = #[.int .i64 a.sc, .int .u64 (a.ze : Int), .int .i64 a.po, .slice ao a.pl.length c, .int .i64 a.no, .slice a1 a.nl.length c1, .int .i64 b.sc, .int .u64 (b.ze : Int), .int .i64 b.po, .slice bo b.pl.length d, .int .i64 b.no, .slice b1 b.nl.length d1] := ⟨_, rfl⟩
  have bld : ∀ w, (Instr.build 106 #[(0, .agg CA), (1, .agg CB)]).run Try.prog w = .ok (.agg AR) w := fun w => by rw [hCA, hCB, hAR]; kernel_rfl
  have i0 : ∀ w, (Instr.index 106 (.agg AR) (.int .i64 0)).run Try.prog w = .ok (.agg CA) w := fun w => by rw [hCA, hAR]; kernel_rfl
  have i1 : ∀ w, (Instr.index 106 (.agg AR) (.int .i64 1)).run Try.prog w = .ok (.agg CB) w := fun w => by rw [hCB, hAR]; kernel_rfl
  have HIA : Hid (((Try.prog.info? 30).map (·.size) = some CA.size ∧ CA.size = 6 ∧ CA.all (·.oneCell') = true) ∧ ((Try.prog.info? 30).map (·.size) = some CB.size ∧ CB.size = 6 ∧ CB.all (·.oneCell') = true)) := Lib.hid (by rw [hCA, hCB]; exact ⟨⟨hist_info, rfl, histC_one (h := a) ⟨rfl, rfl⟩⟩, hist_info, rfl, histC_one (h := b) ⟨rfl, rfl⟩⟩)
  have HS0 : Hid (CA[0]? = some (.int .i64 a.sc) ∧ CB[0]? = some (.int .i64 b.sc)) := Lib.hid (by rw [hCA, hCB]; exact ⟨rfl, rfl⟩)
  rw [← hCA] at HCA HDA
  rw [← hCB] at HCB HDB
  rw [← hCA, ← hCB]
  obtain ⟨w2, hw2⟩ : ∃ w2, w2 = (((w.alloc (.cells CA 30)).alloc (.cells CB 30)).alloc (.cells #[.int .i64 0, .int .u64 0, .int .i64 0, .slice none 0 0, .int .i64 0, .slice none 0 0] 30)).alloc (.cells #[.int .i64 0, .int .u64 0, .int .i64 0, .slice none 0 0, .int .i64 0, .slice none 0 0] 30) := ⟨_, rfl⟩
  have k2 : Kept (fun _ => False) w w2 := by rw [hw2]; exact ((((Kept.refl _ _).alloc _).alloc _).alloc _).alloc _
  have hb1 : w2.heap[q]? = some (.cells CA 30 (0, 0)) ∧ w2.heap[q + 1]? = some (.cells CB 30 (0, 0)) ∧ w2.heap[q + 1 + 1]? = some (.cells #[.int .i64 0, .int .u64 0, .int .i64 0, .slice none 0 0, .int .i64 0, .slice none 0 0] 30 (0, 0)) ∧ w2.heap[q + 1 + 1 + 1]? = some (.cells #[.int .i64 0, .int .u64 0, .int .i64 0, .slice none 0 0, .int .i64 0, .slice none 0 0] 30 (0, 0)) := by rw [hw2, hq]; exact alloc4 w _ _ _ _
  have HBX : Hid (∀ w', Kept (fun _ => False) w2 w' → w'.heap[q]? = some (.cells CA 30 (0, 0)) ∧ w'.heap[q + 1]? = some (.cells CB 30 (0, 0)) ∧ w'.heap[q + 1 + 1]? = some (.cells #[.int .i64 0, .int .u64 0, .int .i64 0, .slice none 0 0, .int .i64 0, .slice none 0 0] 30 (0, 0)) ∧ w'.heap[q + 1 + 1 + 1]? = some (.cells #[.int .i64 0, .int .u64 0, .int .i64 0, .slice none 0 0, .int .i64 0, .slice none 0 0] 30 (0, 0))) := Lib.hid (fun w' k => ⟨k.same hb1.1 (fun x => x), k.same hb1.2.1 (fun x => x), k.same hb1.2.2.1 (fun x => x), k.same hb1.2.2.2 (fun x => x)⟩)
  have HW2 := Lib.hid (And.intro hw2 hq)
  have HK02 := Lib.hid k2
  have HGE : Hid (w.heap.size ≤ q) := Lib.hid (by omega)
  have HBAD := Lib.hid fun w' E (hE : levE a b = E) (h0 : E ≠ 0) (k : Kept (fun _ => False) w w') => lev_bad_out hE h0 k
  obtain ⟨Ea, hEa⟩ : ∃ E, E = a.err := ⟨_, rfl⟩
  obtain ⟨Eb, hEb⟩ : ∃ E, E = b.err := ⟨_, rfl⟩
  have HLE : Hid (levE a b = if Ea ≠ 0 then Ea else Eb) := Lib.hid (by rw [hEa, hEb]; rfl)
  rw [← hEa] at HCA
  rw [← hEb] at HCB
  have HG : Hid (Ea = 0 → Eb = 0 → (levE a b = 0 ∧ (-10 ≤ a.sc ∧ a.sc ≤ 20) ∧ (-10 ≤ b.sc ∧ b.sc ≤ 20)) ∧ downE a (a.sc - levS a b) = 0 ∧ downE b (b.sc - levS a b) = 0 ∧ levX a b = downR a (a.sc - levS a b) ∧ levY a b = downR b (b.sc - levS a b)) := Lib.hid (fun z1 z2 => by
    obtain ⟨g1, g2, g3, g4, g5⟩ := lev_good (a := a) (b := b) (by omega) (by omega)
    exact ⟨⟨g1, (err_light (by omega)).1, (err_light (by omega)).1⟩, g2, g3, g4, g5⟩)
  have HSM := Lib.hid (show levS a b = if a.sc ≤ b.sc then a.sc else b.sc from rfl)
  clear hw2 hq k2 hb1 hCA hCB hAR ha hb oka okb la1 la2 lb1 lb2 hEa hEb
  go_enter Try.func44, Try.ntmps44
  go_upto_region 1 with fail
  rw [← HW2.out.1, ← HW2.out.2]
  go_wp2_with (first
    | (refine wpList_load_row rfl 30 (.tmp 2) rfl q rfl 30 _ (0, 0) _ (HBX.out w2 (Kept.refl _ _)).1 Try.underlying30 rfl HIA.out.1.1 ?_)
    | (refine wpList_load_row rfl 30 (.tmp 3) rfl (q + 1) rfl 30 _ (0, 0) _ (HBX.out w2 (Kept.refl _ _)).2.1 Try.underlying30 rfl HIA.out.2.1 ?_)
    | (refine wpList_build_v rfl 106 (.tmp 11) (.tmp 12) rfl (.agg CA) (.agg CB) (.agg AR) rfl rfl bld ?_)
    | fail)
  go_wp2
  go_loopg [14] 2 (fun g s14 wr => ∃ k : Nat, k ≤ 2 ∧ g = 2 - k ∧ s14 = .int .i64 k ∧ (k = 0 ∨ k = 1 ∧ Ea = 0 ∨ k = 2 ∧ Ea = 0 ∧ Eb = 0) ∧ Kept (fun _ => False) w2 wr)
  case atStart => exact ⟨0, by omega, rfl, rfl, .inl rfl, Kept.refl _ _⟩
  case round =>
    obtain ⟨k, hk2, rfl, rfl, hcase, hkw⟩ := hrel
    have HK := Lib.hid hkw
    clear hkw
    rcases hcase with rfl | ⟨rfl, z1⟩ | ⟨rfl, z1, z2⟩
    · by_cases z : Ea = 0
      · have qz : ((Ea : Int) != 0) = false := bneF (by omega)
        have Z := Lib.hid z
        clear z
        have HST : Hid ((Try.prog.info? 30).map (·.size) = some CA.size ∧ CA.size = 6 ∧ CA.all (·.oneCell') = true) := Lib.hid HIA.out.1
        obtain ⟨g8, hg8⟩ : ∃ g, g = wr.heap.size := ⟨_, rfl⟩
        have HG8 := Lib.hid hg8
        clear hg8
        go_upto_region 4 with (first | (refine wpList_index_v rfl 106 (.tmp 13) (.tmp 14) rfl (.agg AR) (.int .i64 0) (.agg CA) rfl rfl i0 ?_) | (refine wpList_store_box rfl 30 (.tmp 8) _ rfl wr _ CA 30 rfl rfl rfl HST.out.1 (by rw [HST.out.2.1]; rfl) HST.out.2.2 ?_; intro w3 hb3 k3; have HB3 : Hid (w3.heap[g8]? = some (.cells CA 30 (0, 0))) := Lib.hid (by rw [HG8.out]; exact hb3); have HK3 := Lib.hid (HK.out.trans k3); clear hb3 k3))
        rw [← HG8.out]
        go_wp2_with (first
          | (refine wpList_load_row rfl 30 (.tmp 8) rfl g8 rfl 30 _ (0, 0) _ HB3.out Try.underlying30 rfl HST.out.1 ?_)
          | fail)
        refine (HCA.out w3 (HK02.out.trans HK3.out)).mono ?_
        rintro e w4 ⟨rfl, k4⟩
        have HK4 := Lib.hid (HK3.out.trans k4)
        clear k4
        go_wp2
        go_roundg 1
        case measure => omega
        case rel => exact ⟨1, by omega, rfl, by rfl, .inr (.inl ⟨rfl, Z.out⟩), HK4.out⟩
      · have qz : ((Ea : Int) != 0) = true := bneT (by omega)
        have Z := Lib.hid z
        clear z
        have HST : Hid ((Try.prog.info? 30).map (·.size) = some CA.size ∧ CA.size = 6 ∧ CA.all (·.oneCell') = true) := Lib.hid HIA.out.1
        obtain ⟨g8, hg8⟩ : ∃ g, g = wr.heap.size := ⟨_, rfl⟩
        have HG8 := Lib.hid hg8
        clear hg8
        go_upto_region 4 with (first | (refine wpList_index_v rfl 106 (.tmp 13) (.tmp 14) rfl (.agg AR) (.int .i64 0) (.agg CA) rfl rfl i0 ?_) | (refine wpList_store_box rfl 30 (.tmp 8) _ rfl wr _ CA 30 rfl rfl rfl HST.out.1 (by rw [HST.out.2.1]; rfl) HST.out.2.2 ?_; intro w3 hb3 k3; have HB3 : Hid (w3.heap[g8]? = some (.cells CA 30 (0, 0))) := Lib.hid (by rw [HG8.out]; exact hb3); have HK3 := Lib.hid (HK.out.trans k3); clear hb3 k3))
        rw [← HG8.out]
        go_wp2_with (first
          | (refine wpList_load_row rfl 30 (.tmp 8) rfl g8 rfl 30 _ (0, 0) _ HB3.out Try.underlying30 rfl HST.out.1 ?_)
          | fail)
        refine (HCA.out w3 (HK02.out.trans HK3.out)).mono ?_
        rintro e w4 ⟨rfl, k4⟩
        have HK4 := Lib.hid (HK3.out.trans k4)
        clear k4
        go_upto_region 6 with fail
        go_wp2_with (first
          | (refine wpList_store_to rfl 30 (.tmp 4) _ rfl (q + 1 + 1) #[.int .i64 0, .int .u64 0, .int .i64 0, .slice none 0 0, .int .i64 0, .slice none 0 0] rfl rfl 30 #[.int .i64 0, .int .u64 0, .int .i64 0, .slice none 0 0, .int .i64 0, .slice none 0 0] (HBX.out w4 HK4.out).2.2.1 hist_info rfl (histC_one (h := zeroH) ⟨rfl, rfl⟩) ?_; intro w5 hb5 k5; have HB5 := Lib.hid hb5; have HK5 := Lib.hid k5; clear hb5 k5)
          | (refine wpList_store_to rfl 30 (.tmp 5) _ rfl (q + 1 + 1 + 1) #[.int .i64 0, .int .u64 0, .int .i64 0, .slice none 0 0, .int .i64 0, .slice none 0 0] rfl rfl 30 #[.int .i64 0, .int .u64 0, .int .i64 0, .slice none 0 0, .int .i64 0, .slice none 0 0] (HK5.out.same (HBX.out w4 HK4.out).2.2.2 (by omega)) hist_info rfl (histC_one (h := zeroH) ⟨rfl, rfl⟩) ?_; intro w6 hb6 k6; have HB6 := Lib.hid hb6; have HK6 := Lib.hid k6; clear hb6 k6)
          | fail)
        refine bodyPost_ret (results_cct Try.results44 _ _ (q + 1 + 1) (q + 1 + 1 + 1) 30 30 _ _ (0, 0) (0, 0) _ _ rfl (HK6.out.same HB5.out (by omega)) Try.underlying30 rfl hist_info rfl HB6.out Try.underlying30 rfl hist_info) rfl ?_
        exact HBAD.out _ Ea (by rw [HLE.out, if_pos Z.out]) Z.out (((HK02.out.trans HK4.out).newer HK5.out (fun i e => by have := HGE.out; omega)).newer HK6.out (fun i e => by have := HGE.out; omega))
    · by_cases z : Eb = 0
      · have qz : ((Eb : Int) != 0) = false := bneF (by omega)
        have Z := Lib.hid (And.intro z1 z)
        clear z z1
        have HST : Hid ((Try.prog.info? 30).map (·.size) = some CB.size ∧ CB.size = 6 ∧ CB.all (·.oneCell') = true) := Lib.hid HIA.out.2
        obtain ⟨g8, hg8⟩ : ∃ g, g = wr.heap.size := ⟨_, rfl⟩
        have HG8 := Lib.hid hg8
        clear hg8
        go_upto_region 4 with (first | (refine wpList_index_v rfl 106 (.tmp 13) (.tmp 14) rfl (.agg AR) (.int .i64 1) (.agg CB) rfl rfl i1 ?_) | (refine wpList_store_box rfl 30 (.tmp 8) _ rfl wr _ CB 30 rfl rfl rfl HST.out.1 (by rw [HST.out.2.1]; rfl) HST.out.2.2 ?_; intro w3 hb3 k3; have HB3 : Hid (w3.heap[g8]? = some (.cells CB 30 (0, 0))) := Lib.hid (by rw [HG8.out]; exact hb3); have HK3 := Lib.hid (HK.out.trans k3); clear hb3 k3))
        rw [← HG8.out]
        go_wp2_with (first
          | (refine wpList_load_row rfl 30 (.tmp 8) rfl g8 rfl 30 _ (0, 0) _ HB3.out Try.underlying30 rfl HST.out.1 ?_)
          | fail)
        refine (HCB.out w3 (HK02.out.trans HK3.out)).mono ?_
        rintro e w4 ⟨rfl, k4⟩
        have HK4 := Lib.hid (HK3.out.trans k4)
        clear k4
        go_wp2
        go_roundg 0
        case measure => omega
        case rel => exact ⟨2, by omega, rfl, by rfl, .inr (.inr ⟨rfl, Z.out.1, Z.out.2⟩), HK4.out⟩
      · have qz : ((Eb : Int) != 0) = true := bneT (by omega)
        have Z1 := Lib.hid z1
        have Z := Lib.hid z
        clear z z1
        have HST : Hid ((Try.prog.info? 30).map (·.size) = some CB.size ∧ CB.size = 6 ∧ CB.all (·.oneCell') = true) := Lib.hid HIA.out.2
        obtain ⟨g8, hg8⟩ : ∃ g, g = wr.heap.size := ⟨_, rfl⟩
        have HG8 := Lib.hid hg8
        clear hg8
        go_upto_region 4 with (first | (refine wpList_index_v rfl 106 (.tmp 13) (.tmp 14) rfl (.agg AR) (.int .i64 1) (.agg CB) rfl rfl i1 ?_) | (refine wpList_store_box rfl 30 (.tmp 8) _ rfl wr _ CB 30 rfl rfl rfl HST.out.1 (by rw [HST.out.2.1]; rfl) HST.out.2.2 ?_; intro w3 hb3 k3; have HB3 : Hid (w3.heap[g8]? = some (.cells CB 30 (0, 0))) := Lib.hid (by rw [HG8.out]; exact hb3); have HK3 := Lib.hid (HK.out.trans k3); clear hb3 k3))
        rw [← HG8.out]
        go_wp2_with (first
          | (refine wpList_load_row rfl 30 (.tmp 8) rfl g8 rfl 30 _ (0, 0) _ HB3.out Try.underlying30 rfl HST.out.1 ?_)
          | fail)
        refine (HCB.out w3 (HK02.out.trans HK3.out)).mono ?_
        rintro e w4 ⟨rfl, k4⟩
        have HK4 := Lib.hid (HK3.out.trans k4)
        clear k4
        go_upto_region 6 with fail
        go_wp2_with (first
          | (refine wpList_store_to rfl 30 (.tmp 4) _ rfl (q + 1 + 1) #[.int .i64 0, .int .u64 0, .int .i64 0, .slice none 0 0, .int .i64 0, .slice none 0 0] rfl rfl 30 #[.int .i64 0, .int .u64 0, .int .i64 0, .slice none 0 0, .int .i64 0, .slice none 0 0] (HBX.out w4 HK4.out).2.2.1 hist_info rfl (histC_one (h := zeroH) ⟨rfl, rfl⟩) ?_; intro w5 hb5 k5; have HB5 := Lib.hid hb5; have HK5 := Lib.hid k5; clear hb5 k5)
          | (refine wpList_store_to rfl 30 (.tmp 5) _ rfl (q + 1 + 1 + 1) #[.int .i64 0, .int .u64 0, .int .i64 0, .slice none 0 0, .int .i64 0, .slice none 0 0] rfl rfl 30 #[.int .i64 0, .int .u64 0, .int .i64 0, .slice none 0 0, .int .i64 0, .slice none 0 0] (HK5.out.same (HBX.out w4 HK4.out).2.2.2 (by omega)) hist_info rfl (histC_one (h := zeroH) ⟨rfl, rfl⟩) ?_; intro w6 hb6 k6; have HB6 := Lib.hid hb6; have HK6 := Lib.hid k6; clear hb6 k6)
          | fail)
        refine bodyPost_ret (results_cct Try.results44 _ _ (q + 1 + 1) (q + 1 + 1 + 1) 30 30 _ _ (0, 0) (0, 0) _ _ rfl (HK6.out.same HB5.out (by omega)) Try.underlying30 rfl hist_info rfl HB6.out Try.underlying30 rfl hist_info) rfl ?_
        exact HBAD.out _ Eb (by rw [HLE.out, if_neg (by rw [Z1.out]; exact fun h => h rfl)]) Z.out (((HK02.out.trans HK4.out).newer HK5.out (fun i e => by have := HGE.out; omega)).newer HK6.out (fun i e => by have := HGE.out; omega))
    · obtain ⟨⟨g0, ⟨s1, s2⟩, s3, s4⟩, g2, g3, g4, g5⟩ := HG.out z1 z2
      have HGL := Lib.hid g0
      obtain ⟨X, hX⟩ : ∃ X, X = levX a b := ⟨_, rfl⟩
      obtain ⟨Y, hY⟩ : ∃ Y, Y = levY a b := ⟨_, rfl⟩
      have HXE := Lib.hid (And.intro hX hY)
      rw [← hX] at g4
      rw [← hY] at g5
      have s0 : wr.cell? ⟨q, 0, none⟩ = some (.int .i64 a.sc) := cell_rowZ 0 _ (HBX.out wr HK.out).1 HS0.out.1
      have s0' : wr.cell? ⟨q + 1, 0, none⟩ = some (.int .i64 b.sc) := cell_rowZ 0 _ (HBX.out wr HK.out).2.1 HS0.out.2
      have hsm := HSM.out
      by_cases hle : a.sc ≤ b.sc
      · have hs : levS a b = a.sc := by rw [hsm, if_pos hle]
        have ql : decide (a.sc ≤ b.sc) = true := decide_eq_true hle
        have hm : min a.sc b.sc = a.sc := Int.min_eq_left hle
        have hda := fun w' k => HDA.out w' (a.sc - levS a b) (by unfold I64; rw [hs]; omega) k
        have hdb := fun w' k => HDB.out w' (b.sc - levS a b) (by unfold I64; rw [hs]; omega) k
        rw [g2, ← g4] at hda
        rw [g3, ← g5] at hdb
        rw [hs] at hda hdb
        rw [Int.sub_self] at hda
        have wd : IntKind.i64.wrap (b.sc - a.sc) = b.sc - a.sc := IntWalk.i64_in _ ⟨by omega, by omega⟩
        obtain ⟨dd, hdd⟩ : ∃ d, d = b.sc - a.sc := ⟨_, rfl⟩
        rw [← hdd] at hdb
        have hdd' := hdd.symm
        have wd' : IntKind.i64.wrap dd = dd := by rw [hdd]; exact wd
        have HDA := Lib.hid hda
        have HDB := Lib.hid hdb
        unfold HistOut at HDA HDB
        clear hda hdb g0 g2 g3 g4 g5 hs hsm hX hY hdd z1 z2 s1 s2 s3 s4 HG wd
        clear HCA HCB bld i0 i1
        go_upto_region 9 with fail
        go_wp2_with (first
          | (refine wpList_load_row rfl 30 (.tmp 2) rfl q rfl 30 _ (0, 0) _ (HBX.out wr HK.out).1 Try.underlying30 rfl HIA.out.1.1 ?_)
          | fail)
        refine (HDA.out wr (HK02.out.trans HK.out)).mono ?_
        rintro e w3 ⟨pv, nv, rfl, m1, m2, _⟩
        obtain ⟨x1, x2, x3, x4, rfl, rfl, hn1⟩ := HN.of m1 m2
        have HN1 := Lib.hid hn1
        have HK3 := Lib.hid (HK.out.trans hn1.mp.kept)
        clear m1 m2 hn1
        rw [histV_A]
        go_upto_region 10 with (refine wpList_store_to rfl 30 (.tmp 4) _ rfl (q + 1 + 1) (histA X (.slice x1 X.pl.length x3) (.slice x2 X.nl.length x4)) rfl rfl 30 #[.int .i64 0, .int .u64 0, .int .i64 0, .slice none 0 0, .int .i64 0, .slice none 0 0] (HBX.out w3 HK3.out).2.2.1 hist_info rfl (histC_one (h := X) ⟨rfl, rfl⟩) ?_; intro w4 hb4 k4; have HB4 := Lib.hid hb4; have HK4 := Lib.hid k4; clear hb4 k4)
        have HN1b := Lib.hid ((HN1.out.down (HK02.out.trans HK.out)).set (HBX.out w3 HK3.out).2.2.1 (by decide) (by have := HGE.out; omega) HK4.out)
        have HB4b := Lib.hid (HK4.out.same (HBX.out w3 HK3.out).2.1 (by omega))
        have HR4 := Lib.hid (HK4.out.same (HBX.out w3 HK3.out).2.2.2 (by omega))
        have HKw4 : Hid (Kept (fun _ => False) w w4) := Lib.hid ((HK02.out.trans HK3.out).newer HK4.out (fun i e => by have := HGE.out; omega))
        clear s0 s0'
        have s0' : w4.cell? ⟨q + 1, 0, none⟩ = some (.int .i64 b.sc) := cell_rowZ 0 _ HB4b.out HS0.out.2
        go_wp2_with (first
          | (refine wpList_load_row rfl 30 (.tmp 3) rfl (q + 1) rfl 30 _ (0, 0) _ HB4b.out Try.underlying30 rfl HIA.out.2.1 ?_)
          | fail)
        refine (HDB.out w4 HKw4.out).mono ?_
        rintro e w5 ⟨pv, nv, rfl, m1, m2, _⟩
        obtain ⟨y1, y2, y3, y4, rfl, rfl, hn2⟩ := HN.of m1 m2
        have HN2 := Lib.hid hn2
        have HK5 := Lib.hid hn2.mp.kept
        clear m1 m2 hn2
        rw [histV_A]
        have hr5 := HK5.out.same HR4.out (fun x => x)
        go_upto_region 11 with (refine wpList_store_to rfl 30 (.tmp 5) _ rfl (q + 1 + 1 + 1) (histA Y (.slice y1 Y.pl.length y3) (.slice y2 Y.nl.length y4)) rfl rfl 30 #[.int .i64 0, .int .u64 0, .int .i64 0, .slice none 0 0, .int .i64 0, .slice none 0 0] hr5 hist_info rfl (histC_one (h := Y) ⟨rfl, rfl⟩) ?_; intro w6 hb6 k6; have HB6 := Lib.hid hb6; have HK6 := Lib.hid k6; clear hb6 k6)
        have HN2b := Lib.hid ((HN2.out.down HKw4.out).set hr5 (by decide) (by have := HGE.out; omega) HK6.out)
        have HN1c := Lib.hid ((HN1b.out.on HK5.out).set hr5 (by decide) (by have := HGE.out; omega) HK6.out)
        have HB4c := Lib.hid (HK6.out.same (HK5.out.same HB4.out (fun x => x)) (by omega))
        have HD : Hid (Kept (fun _ => False) w6 w6.drew) := Lib.hid (Kept.refl _ _).drew
        have HSd : Hid ((fun w' => w'.heap[q + 1 + 1]? = some (.cells (histA X (.slice x1 X.pl.length x3) (.slice x2 X.nl.length x4)) 30 (0, 0)) ∧ w'.heap[q + 1 + 1 + 1]? = some (.cells (histA Y (.slice y1 Y.pl.length y3) (.slice y2 Y.nl.length y4)) 30 (0, 0))) w6.drew) := Lib.hid ⟨HD.out.same HB4c.out (fun x => x), HD.out.same HB6.out (fun x => x)⟩
        have HN1d := Lib.hid (HN1c.out.on HD.out)
        have HN2d := Lib.hid (HN2b.out.on HD.out)
        clear hr5 s0'
        refine AnyBut.start (S := fun w' => w'.heap[q + 1 + 1]? = some (.cells (histA X (.slice x1 X.pl.length x3) (.slice x2 X.nl.length x4)) 30 (0, 0)) ∧ w'.heap[q + 1 + 1 + 1]? = some (.cells (histA Y (.slice y1 Y.pl.length y3) (.slice y2 Y.nl.length y4)) 30 (0, 0))) (k := 5) (by kernel_rfl) ?_
        refine AnyBut.takeS (i := 0) (v := ?v1) rfl (by kernel_rfl) (Nat.le_of_eq (by kernel_rfl)) (by kernel_rfl) (by kernel_rfl) (fun _ _ _ h => h) (HSd.out) (Or.inl ⟨by kernel_rfl, ?hy1⟩) ?r1
        case hy1 =>
          intro w hSw
          try dsimp only at hSw
          refine exec_load_row 30 (.tmp 4) ?_ (q + 1 + 1) ?_ 30 _ (0, 0) _ hSw.1 Try.underlying30 rfl hist_info
          · rfl
          · rfl
        try simp only [Act.put, List.getElem_toArray, List.getElem_cons_zero, List.setIfInBounds_toArray, List.set_cons_zero, List.set_cons_succ]
        refine AnyBut.takeS (i := 1) (v := ?v2) rfl (by kernel_rfl) (Nat.le_of_eq (by kernel_rfl)) (by kernel_rfl) (by kernel_rfl) (fun _ _ _ h => h) (HSd.out) (Or.inl ⟨by kernel_rfl, ?hy2⟩) ?r2
        case hy2 =>
          intro w hSw
          try dsimp only at hSw
          refine exec_load_row 30 (.tmp 5) ?_ (q + 1 + 1 + 1) ?_ 30 _ (0, 0) _ hSw.2 Try.underlying30 rfl hist_info
          · rfl
          · rfl
        try simp only [Act.put, List.getElem_toArray, List.getElem_cons_succ, List.getElem_cons_zero, List.setIfInBounds_toArray, List.set_cons_zero, List.set_cons_succ]
        refine AnyBut.one (i := 2) (by kernel_rfl) rfl (fun K hK => ?_)
        refine step_store_to (by rfl) 30 (.tmp 4) (.tmp 48) (by rfl) (q + 1 + 1) (histA X (.slice x1 X.pl.length x3) (.slice x2 X.nl.length x4)) (by rfl) (by rfl) 30 _ HSd.out.1 hist_info rfl (histC_one (h := X) ⟨rfl, rfl⟩) ?_
        intro w8 hb8 k8
        have HK8 := Lib.hid k8
        have HS8 : Hid ((fun w' => w'.heap[q + 1 + 1]? = some (.cells (histA X (.slice x1 X.pl.length x3) (.slice x2 X.nl.length x4)) 30 (0, 0)) ∧ w'.heap[q + 1 + 1 + 1]? = some (.cells (histA Y (.slice y1 Y.pl.length y3) (.slice y2 Y.nl.length y4)) 30 (0, 0))) w8) := Lib.hid ⟨hb8, k8.same HSd.out.2 (by omega)⟩
        clear hb8 k8
        refine hK.out _ _ (HS8.out) ?_
        clear hK K
        try simp only [Act.put, List.getElem_toArray, List.getElem_cons_succ, List.getElem_cons_zero]
        refine AnyBut.one (i := 3) (by kernel_rfl) rfl (fun K hK => ?_)
        refine step_store_to (by rfl) 30 (.tmp 5) (.tmp 49) (by rfl) (q + 1 + 1 + 1) (histA Y (.slice y1 Y.pl.length y3) (.slice y2 Y.nl.length y4)) (by rfl) (by rfl) 30 _ HS8.out.2 hist_info rfl (histC_one (h := Y) ⟨rfl, rfl⟩) ?_
        intro w9 hb9 k9
        have HK9 := Lib.hid k9
        have HS9 : Hid ((fun w' => w'.heap[q + 1 + 1]? = some (.cells (histA X (.slice x1 X.pl.length x3) (.slice x2 X.nl.length x4)) 30 (0, 0)) ∧ w'.heap[q + 1 + 1 + 1]? = some (.cells (histA Y (.slice y1 Y.pl.length y3) (.slice y2 Y.nl.length y4)) 30 (0, 0))) w9) := Lib.hid ⟨k9.same HS8.out.1 (by omega), hb9⟩
        clear hb9 k9
        refine hK.out _ _ (HS9.out) ?_
        clear hK K
        try simp only [Act.put, List.getElem_toArray, List.getElem_cons_succ, List.getElem_cons_zero]
        refine AnyBut.takeS (i := 4) (v := ?v3) rfl (by kernel_rfl) (Nat.le_of_eq (by kernel_rfl)) (by kernel_rfl) (by kernel_rfl) (fun _ _ _ h => h) (HS9.out) (Or.inl ⟨by kernel_rfl, ?hy3⟩) ?r3
        case hy3 =>
          intro w hSw
          try dsimp only at hSw
          go_simp
          try with_reducible rfl
        try simp only [Act.put, List.getElem_toArray, List.getElem_cons_succ, List.getElem_cons_zero, List.setIfInBounds_toArray, List.set_cons_zero, List.set_cons_succ]
        refine AnyBut.done (by kernel_rfl) ?_
        go_wp2
        refine bodyPost_ret (results_cct Try.results44 _ _ (q + 1 + 1) (q + 1 + 1 + 1) 30 30 _ _ (0, 0) (0, 0) _ _ rfl HS9.out.1 Try.underlying30 rfl hist_info rfl HS9.out.2 Try.underlying30 rfl hist_info) rfl ?_
        have r1 := (HN1d.out.set HSd.out.1 (by decide) (by have := HGE.out; omega) HK8.out).set HS8.out.2 (by decide) (by have := HGE.out; omega) HK9.out
        have r2 := (HN2d.out.set HSd.out.1 (by decide) (by have := HGE.out; omega) HK8.out).set HS8.out.2 (by decide) (by have := HGE.out; omega) HK9.out
        rw [← HXE.out.1, ← HXE.out.2, HGL.out]
        exact ⟨_, _, _, _, rfl, r1.mp, r1.mn, r2.mp, r2.mn⟩
      · have hs : levS a b = b.sc := by rw [hsm, if_neg hle]
        have ql : decide (a.sc ≤ b.sc) = false := decide_eq_false hle
        have hm : min a.sc b.sc = b.sc := Int.min_eq_right (by omega)
        have hda := fun w' k => HDA.out w' (a.sc - levS a b) (by unfold I64; rw [hs]; omega) k
        have hdb := fun w' k => HDB.out w' (b.sc - levS a b) (by unfold I64; rw [hs]; omega) k
        rw [g2, ← g4] at hda
        rw [g3, ← g5] at hdb
        rw [hs] at hda hdb
        rw [Int.sub_self] at hdb
        have wd : IntKind.i64.wrap (a.sc - b.sc) = a.sc - b.sc := IntWalk.i64_in _ ⟨by omega, by omega⟩
        obtain ⟨dd, hdd⟩ : ∃ d, d = a.sc - b.sc := ⟨_, rfl⟩
        rw [← hdd] at hda
        have hdd' := hdd.symm
        have wd' : IntKind.i64.wrap dd = dd := by rw [hdd]; exact wd
        have HDA := Lib.hid hda
        have HDB := Lib.hid hdb
        unfold HistOut at HDA HDB
        clear hda hdb g0 g2 g3 g4 g5 hs hsm hX hY hdd z1 z2 s1 s2 s3 s4 HG wd
        clear HCA HCB bld i0 i1
        go_upto_region 9 with fail
        go_wp2_with (first
          | (refine wpList_load_row rfl 30 (.tmp 2) rfl q rfl 30 _ (0, 0) _ (HBX.out wr HK.out).1 Try.underlying30 rfl HIA.out.1.1 ?_)
          | fail)
        refine (HDA.out wr (HK02.out.trans HK.out)).mono ?_
        rintro e w3 ⟨pv, nv, rfl, m1, m2, _⟩
        obtain ⟨x1, x2, x3, x4, rfl, rfl, hn1⟩ := HN.of m1 m2
        have HN1 := Lib.hid hn1
        have HK3 := Lib.hid (HK.out.trans hn1.mp.kept)
        clear m1 m2 hn1
        rw [histV_A]
        go_upto_region 10 with (refine wpList_store_to rfl 30 (.tmp 4) _ rfl (q + 1 + 1) (histA X (.slice x1 X.pl.length x3) (.slice x2 X.nl.length x4)) rfl rfl 30 #[.int .i64 0, .int .u64 0, .int .i64 0, .slice none 0 0, .int .i64 0, .slice none 0 0] (HBX.out w3 HK3.out).2.2.1 hist_info rfl (histC_one (h := X) ⟨rfl, rfl⟩) ?_; intro w4 hb4 k4; have HB4 := Lib.hid hb4; have HK4 := Lib.hid k4; clear hb4 k4)
        have HN1b := Lib.hid ((HN1.out.down (HK02.out.trans HK.out)).set (HBX.out w3 HK3.out).2.2.1 (by decide) (by have := HGE.out; omega) HK4.out)
        have HB4b := Lib.hid (HK4.out.same (HBX.out w3 HK3.out).2.1 (by omega))
        have HR4 := Lib.hid (HK4.out.same (HBX.out w3 HK3.out).2.2.2 (by omega))
        have HKw4 : Hid (Kept (fun _ => False) w w4) := Lib.hid ((HK02.out.trans HK3.out).newer HK4.out (fun i e => by have := HGE.out; omega))
        clear s0 s0'
        have s0' : w4.cell? ⟨q + 1, 0, none⟩ = some (.int .i64 b.sc) := cell_rowZ 0 _ HB4b.out HS0.out.2
        go_wp2_with (first
          | (refine wpList_load_row rfl 30 (.tmp 3) rfl (q + 1) rfl 30 _ (0, 0) _ HB4b.out Try.underlying30 rfl HIA.out.2.1 ?_)
          | fail)
        refine (HDB.out w4 HKw4.out).mono ?_
        rintro e w5 ⟨pv, nv, rfl, m1, m2, _⟩
        obtain ⟨y1, y2, y3, y4, rfl, rfl, hn2⟩ := HN.of m1 m2
        have HN2 := Lib.hid hn2
        have HK5 := Lib.hid hn2.mp.kept
        clear m1 m2 hn2
        rw [histV_A]
        have hr5 := HK5.out.same HR4.out (fun x => x)
        go_upto_region 11 with (refine wpList_store_to rfl 30 (.tmp 5) _ rfl (q + 1 + 1 + 1) (histA Y (.slice y1 Y.pl.length y3) (.slice y2 Y.nl.length y4)) rfl rfl 30 #[.int .i64 0, .int .u64 0, .int .i64 0, .slice none 0 0, .int .i64 0, .slice none 0 0] hr5 hist_info rfl (histC_one (h := Y) ⟨rfl, rfl⟩) ?_; intro w6 hb6 k6; have HB6 := Lib.hid hb6; have HK6 := Lib.hid k6; clear hb6 k6)
        have HN2b := Lib.hid ((HN2.out.down HKw4.out).set hr5 (by decide) (by have := HGE.out; omega) HK6.out)
        have HN1c := Lib.hid ((HN1b.out.on HK5.out).set hr5 (by decide) (by have := HGE.out; omega) HK6.out)
        have HB4c := Lib.hid (HK6.out.same (HK5.out.same HB4.out (fun x => x)) (by omega))
        have HD : Hid (Kept (fun _ => False) w6 w6.drew) := Lib.hid (Kept.refl _ _).drew
        have HSd : Hid ((fun w' => w'.heap[q + 1 + 1]? = some (.cells (histA X (.slice x1 X.pl.length x3) (.slice x2 X.nl.length x4)) 30 (0, 0)) ∧ w'.heap[q + 1 + 1 + 1]? = some (.cells (histA Y (.slice y1 Y.pl.length y3) (.slice y2 Y.nl.length y4)) 30 (0, 0))) w6.drew) := Lib.hid ⟨HD.out.same HB4c.out (fun x => x), HD.out.same HB6.out (fun x => x)⟩
        have HN1d := Lib.hid (HN1c.out.on HD.out)
        have HN2d := Lib.hid (HN2b.out.on HD.out)
        clear hr5 s0'
        refine AnyBut.start (S := fun w' => w'.heap[q + 1 + 1]? = some (.cells (histA X (.slice x1 X.pl.length x3) (.slice x2 X.nl.length x4)) 30 (0, 0)) ∧ w'.heap[q + 1 + 1 + 1]? = some (.cells (histA Y (.slice y1 Y.pl.length y3) (.slice y2 Y.nl.length y4)) 30 (0, 0))) (k := 5) (by kernel_rfl) ?_
        refine AnyBut.takeS (i := 0) (v := ?v4) rfl (by kernel_rfl) (Nat.le_of_eq (by kernel_rfl)) (by kernel_rfl) (by kernel_rfl) (fun _ _ _ h => h) (HSd.out) (Or.inl ⟨by kernel_rfl, ?hy4⟩) ?r4
        case hy4 =>
          intro w hSw
          try dsimp only at hSw
          refine exec_load_row 30 (.tmp 4) ?_ (q + 1 + 1) ?_ 30 _ (0, 0) _ hSw.1 Try.underlying30 rfl hist_info
          · rfl
          · rfl
        try simp only [Act.put, List.getElem_toArray, List.getElem_cons_zero, List.setIfInBounds_toArray, List.set_cons_zero, List.set_cons_succ]
        refine AnyBut.takeS (i := 1) (v := ?v5) rfl (by kernel_rfl) (Nat.le_of_eq (by kernel_rfl)) (by kernel_rfl) (by kernel_rfl) (fun _ _ _ h => h) (HSd.out) (Or.inl ⟨by kernel_rfl, ?hy5⟩) ?r5
        case hy5 =>
          intro w hSw
          try dsimp only at hSw
          refine exec_load_row 30 (.tmp 5) ?_ (q + 1 + 1 + 1) ?_ 30 _ (0, 0) _ hSw.2 Try.underlying30 rfl hist_info
          · rfl
          · rfl
        try simp only [Act.put, List.getElem_toArray, List.getElem_cons_succ, List.getElem_cons_zero, List.setIfInBounds_toArray, List.set_cons_zero, List.set_cons_succ]
        refine AnyBut.one (i := 2) (by kernel_rfl) rfl (fun K hK => ?_)
        refine step_store_to (by rfl) 30 (.tmp 4) (.tmp 48) (by rfl) (q + 1 + 1) (histA X (.slice x1 X.pl.length x3) (.slice x2 X.nl.length x4)) (by rfl) (by rfl) 30 _ HSd.out.1 hist_info rfl (histC_one (h := X) ⟨rfl, rfl⟩) ?_
        intro w8 hb8 k8
        have HK8 := Lib.hid k8
        have HS8 : Hid ((fun w' => w'.heap[q + 1 + 1]? = some (.cells (histA X (.slice x1 X.pl.length x3) (.slice x2 X.nl.length x4)) 30 (0, 0)) ∧ w'.heap[q + 1 + 1 + 1]? = some (.cells (histA Y (.slice y1 Y.pl.length y3) (.slice y2 Y.nl.length y4)) 30 (0, 0))) w8) := Lib.hid ⟨hb8, k8.same HSd.out.2 (by omega)⟩
        clear hb8 k8
        refine hK.out _ _ (HS8.out) ?_
        clear hK K
        try simp only [Act.put, List.getElem_toArray, List.getElem_cons_succ, List.getElem_cons_zero]
        refine AnyBut.one (i := 3) (by kernel_rfl) rfl (fun K hK => ?_)
        refine step_store_to (by rfl) 30 (.tmp 5) (.tmp 49) (by rfl) (q + 1 + 1 + 1) (histA Y (.slice y1 Y.pl.length y3) (.slice y2 Y.nl.length y4)) (by rfl) (by rfl) 30 _ HS8.out.2 hist_info rfl (histC_one (h := Y) ⟨rfl, rfl⟩) ?_
        intro w9 hb9 k9
        have HK9 := Lib.hid k9
        have HS9 : Hid ((fun w' => w'.heap[q + 1 + 1]? = some (.cells (histA X (.slice x1 X.pl.length x3) (.slice x2 X.nl.length x4)) 30 (0, 0)) ∧ w'.heap[q + 1 + 1 + 1]? = some (.cells (histA Y (.slice y1 Y.pl.length y3) (.slice y2 Y.nl.length y4)) 30 (0, 0))) w9) := Lib.hid ⟨k9.same HS8.out.1 (by omega), hb9⟩
        clear hb9 k9
        refine hK.out _ _ (HS9.out) ?_
        clear hK K
        try simp only [Act.put, List.getElem_toArray, List.getElem_cons_succ, List.getElem_cons_zero]
        refine AnyBut.takeS (i := 4) (v := ?v6) rfl (by kernel_rfl) (Nat.le_of_eq (by kernel_rfl)) (by kernel_rfl) (by kernel_rfl) (fun _ _ _ h => h) (HS9.out) (Or.inl ⟨by kernel_rfl, ?hy6⟩) ?r6
        case hy6 =>
          intro w hSw
          try dsimp only at hSw
          go_simp
          try with_reducible rfl
        try simp only [Act.put, List.getElem_toArray, List.getElem_cons_succ, List.getElem_cons_zero, List.setIfInBounds_toArray, List.set_cons_zero, List.set_cons_succ]
        refine AnyBut.done (by kernel_rfl) ?_
        go_wp2
        refine bodyPost_ret (results_cct Try.results44 _ _ (q + 1 + 1) (q + 1 + 1 + 1) 30 30 _ _ (0, 0) (0, 0) _ _ rfl HS9.out.1 Try.underlying30 rfl hist_info rfl HS9.out.2 Try.underlying30 rfl hist_info) rfl ?_
        have r1 := (HN1d.out.set HSd.out.1 (by decide) (by have := HGE.out; omega) HK8.out).set HS8.out.2 (by decide) (by have := HGE.out; omega) HK9.out
        have r2 := (HN2d.out.set HSd.out.1 (by decide) (by have := HGE.out; omega) HK8.out).set HS8.out.2 (by decide) (by have := HGE.out; omega) HK9.out
        rw [← HXE.out.1, ← HXE.out.2, HGL.out]
        exact ⟨_, _, _, _, rfl, r1.mp, r1.mn, r2.mp, r2.mn⟩
end Go.Proofs.Ytiiibhdohlpodaa

