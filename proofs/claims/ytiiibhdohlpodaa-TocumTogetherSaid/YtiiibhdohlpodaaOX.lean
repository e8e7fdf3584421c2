/- Layer 15: what walks on whole boxes need (out of O9). -/
import Derived.Test.YtiiibhdohlpodaaO5
import Derived.Great.BuildSlice
namespace Go.Proofs.Ytiiibhdohlpodaa
open Go.RowKit
attribute [local go_sem ↓] Go.wp_at_zero Go.wp_at_succ

theorem Try.infoPt : (Try.prog.info? 37).map (fun i => (i.zero, i.size, i.bytes)) = some (some (.agg #[.string { data := #[] }, .slice none 0 0, .int .i64 0, .int .i64 0, .bool false, .int .i64 0, .int .i64 0, .int .i64 0, .int .u64 0, .int .u64 0, .int .i64 0, .int .u64 0, .int .i64 0, .slice none 0 0, .int .i64 0, .slice none 0 0, .int .i64 0]), 17, 192) := by kernel_rfl
theorem results_ttc {P : Program} {fn : Func} {p t u : Tmp} {ty : TypeId} (h : fn.results = #[.tmp t, .tmp u, .cell p ty]) (tmps : Array Value) (w : World) (g : Nat) (t' : TypeId) (cs : Array Value) (fr : Nat × Nat) (d : TypeDesc)
    (hp : tmps.getD p undef = .pointer (some ⟨g, 0, none⟩)) (hg : w.heap[g]? = some (.cells cs t' fr))
    (hu : P.underlying ty = some d) (hd : (match d with | .struct _ | .array _ _ => true | _ => false) = true) (hi : (P.info? ty).map (·.size) = some cs.size) :
    (results fn tmps).run P w = .ok (.tuple #[tmps.getD t undef, tmps.getD u undef, .agg cs]) w := by
  have hp' : tmps[p]?.getD undef = .pointer (some ⟨g, 0, none⟩) := by simpa using hp
  simp [results, h, hp', asAddr, run_loadVar_row w g t' ty cs fr d hg hu hd hi]
theorem step_store_to {P : Program} {ops : Array Oper} {o : Oper} {a : Act} {w : World} {K : Act → World → Prop} {Q : Exit → Act → World → Prop} {E : Prop} (hgd : o.guard = none) (ty : TypeId) (x y : Operand) (ho : o.op = .store ty x y)
    (g : Nat) (cells : Array Value) (hx : a.eval x = .pointer (some ⟨g, 0, none⟩)) (hy : a.eval y = .agg cells) (t : TypeId) (old : Array Value) (hg : w.heap[g]? = some (.cells old t (0, 0))) (hi : (P.info? ty).map (·.size) = some cells.size)
    (hold : old.size = cells.size) (h1 : cells.all (·.oneCell') = true) (h : ∀ w', w'.heap[g]? = some (.cells cells t (0, 0)) → Kept (fun i => i = g) w w' → K (a.put o.dst undef) w') : if Region.wanted o (yielded ops a.tmps) = true then Oper.wp P o a w K Q else E :=
  step_store_row hgd ty x y ho g cells hx hy t old hg hi hold h1 (h _ (setRow_heap _ _ _ _ _ _ hg) (setRow_keptW _ _ _))
theorem box_ne {w : World} {a b : Nat} {c1 c2 : Array Value} {T1 T2 : TypeId} (h1 : w.heap[a]? = some (.cells c1 T1 (0, 0))) (h2 : w.heap[b]? = some (.cells c2 T2 (0, 0))) (hT : T1 ≠ T2) : a ≠ b := by
  intro e
  rw [e, h2] at h1
  injection h1 with h1
  injection h1 with _ h1 _
  exact hT h1.symm
theorem fill_pt (p : PtV) : Instr.fill (fun i => some (i * 17, 17)) ((Array.range (1 * 17)).map ((Value.agg #[.string { data := #[] }, .slice none 0 0, .int .i64 0, .int .i64 0, .bool false, .int .i64 0, .int .i64 0, .int .i64 0, .int .u64 0, .int .u64 0, .int .i64 0, .int .u64 0, .int .i64 0, .slice none 0 0, .int .i64 0, .slice none 0 0, .int .i64 0]).cells[· % (Value.agg #[.string { data := #[] }, .slice none 0 0, .int .i64 0, .int .i64 0, .bool false, .int .i64 0, .int .i64 0, .int .i64 0, .int .u64 0, .int .u64 0, .int .i64 0, .int .u64 0, .int .i64 0, .slice none 0 0, .int .i64 0, .slice none 0 0, .int .i64 0]).cells.size]!)) [(0, .agg p.cs)] = some p.cs := by kernel_rfl
theorem wpList_build_pt {ops : Array Oper} {rest : List Oper} {o : Oper} {a : Act} {w : World} {Q : Exit → Act → World → Prop} (hg : o.guard = none) (x : Operand) (ho : o.op = .buildSlice 22 1 #[(0, x)]) (p : PtV) (hx : a.eval x = .agg p.cs)
    (h : wpList Try.prog ops Q rest (a.put o.dst (.slice (some ⟨w.heap.size, 0, none⟩) 1 1)) (w.alloc (.cells p.cs 37))) : wpList Try.prog ops Q (o :: rest) a w := by
  obtain ⟨i, hi, hz0, hz1, hz2⟩ := info_parts Try.infoPt
  refine wpList_buildSlice hg _ _ 1 _ ho p.cs i _ Try.underlying22 hi hz0 (by rw [hz1]; omega) (by rw [hz1]; omega) ?_ h
  rw [hz1]
  simp only [List.map_toArray, List.map_cons, List.map_nil, hx]
  exact fill_pt p
theorem src_pt (w : World) (p : PtV) : Src Try.prog 17 22 (.slice (some ⟨w.heap.size, 0, none⟩) 1 1) 1 (flatG cellsPt [p]) (w.alloc (.cells p.cs 37)) := by
  have := src_oneG cfPt Try.underlying22 w p
  rw [flatG_one']
  simpa [cellsPt] using this
/-- An answer, as an element of a row. -/
theorem GotP.ptv {W w : World} {x : Pnt} {v : Value} (h : GotP W w x v) : ∃ p : PtV, p.x = x ∧ v = .agg p.cs := by
  obtain ⟨a1, a2, a3, c1, c2, c3, rfl, _⟩ := h
  exact ⟨⟨x, a1, a2, a3, c1, c2, c3⟩, rfl, rfl⟩
theorem cs_one (p : PtV) : p.cs.all (·.oneCell') = true := pntC_one' (ones_slices _ _ _ _ _ _ _ _ _)
/-- A row of points that was made. -/
abbrev MineT (W w : World) (v : Value) (L : List PtV) : Prop := MineG cellsPt 17 37 W w v L
/-- Where play stands: the points that were taken, the answers, the state. -/
structure PS (W w : World) (g9 : Nat) (vi vo : Value) (xs : List Pnt) (NS : Array Value) : Prop where
  rows : ∃ I O : List PtV, MineT W w vi I ∧ MineT W w vo O ∧ I.map PtV.x = (playW zeroSt xs).map Prod.fst ∧ O.map PtV.x = (playW zeroSt xs).map Prod.snd
  st : ∃ tp tn, NS = stC (stW zeroSt xs) tp tn ∧ (tp.oneCell' = true ∧ tn.oneCell' = true)
  box : w.heap[g9]? = some (.cells NS 32 (0, 0))
  new : W.heap.size ≤ g9
  ap : ∀ k, vi.ownBlock = some k → vo.ownBlock ≠ some k
theorem PS.on {W w w' : World} {g9 : Nat} {vi vo : Value} {xs : List Pnt} {NS : Array Value} (h : PS W w g9 vi vo xs NS) (k : Kept (fun _ => False) w w') : PS W w' g9 vi vo xs NS := by
  obtain ⟨I, O, h1, h2, h3, h4⟩ := h.rows
  exact ⟨⟨I, O, h1.on k, h2.on k, h3, h4⟩, h.st, k.same h.box (fun x => x), h.new, h.ap⟩
theorem PS.kept {W w : World} {g9 : Nat} {vi vo : Value} {xs : List Pnt} {NS : Array Value} (h : PS W w g9 vi vo xs NS) : Kept (fun _ => False) W w := by
  obtain ⟨I, O, h1, _⟩ := h.rows
  exact h1.kept
/-- A point that isn't taken. -/
theorem PS.skip {W w : World} {g9 : Nat} {vi vo : Value} {xs : List Pnt} {NS : Array Value} {x : Pnt} (h : PS W w g9 vi vo xs NS) (he : stepE (stW zeroSt xs) x ≠ 0) : PS W w g9 vi vo (xs ++ [x]) NS := by
  obtain ⟨h1, h2⟩ := playW_snoc xs zeroSt x
  rw [if_neg he] at h1 h2
  rw [List.append_nil] at h1
  obtain ⟨I, O, r1, r2, r3, r4⟩ := h.rows
  obtain ⟨tp, tn, e, o⟩ := h.st
  exact ⟨⟨I, O, r1, r2, by rw [h1]; exact r3, by rw [h1]; exact r4⟩, ⟨tp, tn, by rw [h2]; exact e, o⟩, h.box, h.new, h.ap⟩
end Go.Proofs.Ytiiibhdohlpodaa
