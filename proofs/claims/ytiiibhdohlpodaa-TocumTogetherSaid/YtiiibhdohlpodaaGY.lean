/- Texts put together for a seat that lacks some of the functions: GR (tools/strip.py). -/
import Derived.Deep.WholeRow
import Derived.Test.YtiiibhdohlpodaaJi
-- GR
namespace Go.Proofs.Ytiiibhdohlpodaa
open Go.RowKit
attribute [local go_sem ↓] Go.wp_at_zero Go.wp_at_succ

def flatG {α : Type} (c : α → List Value) (L : List α) : List Value := L.flatMap c
/-- What a struct's cells are like. -/
structure Cf {α : Type} (c : α → List Value) (sz : Nat) : Prop where
  len : ∀ x, (c x).length = sz
  one : ∀ x, ∀ u ∈ c x, u.oneCell' = true
theorem flatG_length {α : Type} {c : α → List Value} {sz : Nat} (hc : Cf c sz) (L : List α) : (flatG c L).length = L.length * sz := by
  induction L with
  | nil => simp [flatG]
  | cons p L ih => unfold flatG at ih ⊢; rw [List.flatMap_cons, List.length_append, ih, hc.len, List.length_cons, Nat.succ_mul, Nat.add_comm]
theorem flatG_append {α : Type} (c : α → List Value) (a b : List α) : flatG c (a ++ b) = flatG c a ++ flatG c b := by simp [flatG]
theorem flatG_one' {α : Type} (c : α → List Value) (a : α) : flatG c [a] = c a := by simp [flatG]
theorem flatG_get {α : Type} {c : α → List Value} {sz : Nat} (hc : Cf c sz) {L : List α} {i : Nat} {p : α} (h : L[i]? = some p) {j : Nat} (hj : j < sz) : (flatG c L)[i * sz + j]? = (c p)[j]? := by
  induction L generalizing i with
  | nil => simp at h
  | cons q L ih =>
    unfold flatG at ih ⊢
    rw [List.flatMap_cons]
    have hq := hc.len q
    cases i with
    | zero =>
      simp at h; subst h
      rw [List.getElem?_append_left (by rw [hq]; omega)]; simp
    | succ i =>
      simp at h
      rw [Nat.succ_mul, List.getElem?_append_right (by rw [hq]; omega), hq, show i * sz + sz + j - sz = i * sz + j by omega]
      exact ih h
theorem flatG_all {α : Type} {c : α → List Value} {sz : Nat} (hc : Cf c sz) (L : List α) : ∀ u ∈ flatG c L, u.oneCell' = true := by
  intro u hu
  unfold flatG at hu
  obtain ⟨p, _, hp⟩ := List.mem_flatMap.1 hu
  exact hc.one p u hp
/-- Structs lie in a row. -/
def GAt {α : Type} (c : α → List Value) (sz : Nat) (w : World) (ao : Option Addr) (L : List α) : Prop := 0 < L.length → ∃ g o, ao = some ⟨g, o, none⟩ ∧ ∀ i p, L[i]? = some p → ∀ j u, (c p)[j]? = some u → w.cell? ⟨g, o + i * sz + j, none⟩ = some u
theorem GAt.keptS {α : Type} {c : α → List Value} {sz : Nat} {S : Nat → Prop} {W w : World} {ao : Option Addr} {L : List α} (h : GAt c sz W ao L) (k : Kept S W w) (hn : ∀ a, ao = some a → 0 < L.length → ¬ S a.block) : GAt c sz w ao L := by
  intro h0
  obtain ⟨g, o, e, hr⟩ := h h0
  exact ⟨g, o, e, fun i p hi j u hu => k.cell (hr i p hi j u hu) (show ¬ S g from hn ⟨g, o, none⟩ e h0)⟩
theorem GAt.kept {α : Type} {c : α → List Value} {sz : Nat} {W w : World} {ao : Option Addr} {L : List α} (h : GAt c sz W ao L) (k : Kept (fun _ => False) W w) : GAt c sz w ao L := h.keptS k (fun _ _ _ x => x)
theorem GAt.take {α : Type} {c : α → List Value} {sz : Nat} {W : World} {ao : Option Addr} {L : List α} (h : GAt c sz W ao L) (n : Nat) : GAt c sz W ao (L.take n) := by
  intro h0
  obtain ⟨g, o, e, hr⟩ := h (by rw [List.length_take] at h0; omega)
  refine ⟨g, o, e, fun i p hi => hr i p ?_⟩
  rw [List.getElem?_take] at hi
  split at hi
  · exact hi
  · cases hi
theorem GAt.src {α : Type} {c : α → List Value} {sz : Nat} (hc : Cf c sz) (hz : 0 < sz) {P : Program} {t e : TypeId} (ht : P.underlying t = some (.slice e)) {w : World} {ao : Option Addr} {L : List α} {cp : Nat} (h : GAt c sz w ao L) : Src P sz t (.slice ao L.length cp) L.length (flatG c L) w := by
  cases ao with
  | none =>
    have hz : L.length = 0 := by
      rcases Nat.eq_zero_or_pos L.length with h1 | h1
      · exact h1
      · obtain ⟨_, _, e, _⟩ := h h1; cases e
    obtain rfl : L = [] := List.length_eq_zero_iff.1 hz
    exact Src.ofNil (w := w) ht cp
  | some a =>
    refine Src.ofSlice _ ht a L.length cp (flatG c L) (flatG_length hc L) ?_ (flatG_all hc L)
    intro j u hu
    have hj : j < L.length * sz := by have := (List.getElem?_eq_some_iff.1 hu).1; rwa [flatG_length hc] at this
    have h0 : 0 < L.length := by
      rcases Nat.eq_zero_or_pos L.length with h1 | h1
      · rw [h1, Nat.zero_mul] at hj; omega
      · exact h1
    obtain ⟨g, o, e, hr⟩ := h h0
    cases e
    have hi : j / sz < L.length := Nat.div_lt_of_lt_mul (by rw [Nat.mul_comm]; exact hj)
    have hm : j % sz < sz := Nat.mod_lt _ hz
    have e2 : j / sz * sz + j % sz = j := by rw [Nat.mul_comm]; exact Nat.div_add_mod j sz
    have hg := flatG_get hc (List.getElem?_eq_getElem hi) hm
    rw [e2, hu] at hg
    have := hr (j / sz) L[j / sz] (List.getElem?_eq_getElem hi) (j % sz) u hg.symm
    have e : (⟨g, o, none⟩ : Addr).add j = ⟨g, o + j, none⟩ := by unfold Addr.add; split <;> simp_all
    rw [e, show o + j = o + j / sz * sz + j % sz by omega]
    exact this

/-- A row of structs that was made behind the world W. -/
structure MineG {α : Type} (c : α → List Value) (sz : Nat) (E : TypeId) (W w : World) (v : Value) (L : List α) : Prop where
  own : w.ownsRow W.heap.size E sz v L.length (flatG c L)
  kept : Kept (fun _ => False) W w
theorem MineG.nil {α : Type} {c : α → List Value} {sz : Nat} {E : TypeId} {W w : World} (k : Kept (fun _ => False) W w) : MineG c sz E W w (.slice none 0 0) [] := ⟨World.ownsRow_nil _ _ _ _, k⟩
theorem MineG.on {α : Type} {c : α → List Value} {sz : Nat} {E : TypeId} {W w w' : World} {v : Value} {L : List α} (h : MineG c sz E W w v L) (hk : Kept (fun _ => False) w w') : MineG c sz E W w' v L := ⟨hk.owns h.own (fun _ _ x => x), h.kept.trans hk⟩
theorem MineG.keptS {α : Type} {c : α → List Value} {sz : Nat} {E : TypeId} {S : Nat → Prop} {W w w' : World} {v : Value} {L : List α} (h : MineG c sz E W w v L) (hk : Kept S w w') (hn : ∀ k, v.ownBlock = some k → ¬ S k) (hs : ∀ k, S k → W.heap.size ≤ k) : MineG c sz E W w' v L := ⟨hk.owns h.own hn, h.kept.newer hk hs⟩
theorem MineG.down {α : Type} {c : α → List Value} {sz : Nat} {E : TypeId} {W0 W w : World} {v : Value} {L : List α} (h : MineG c sz E W w v L) (hk : Kept (fun _ => False) W0 W) : MineG c sz E W0 w v L := by
  refine ⟨⟨h.own.1, ?_⟩, hk.trans h.kept⟩
  rcases h.own.2 with h0 | ⟨g, cap, cur, e, hg, rest⟩
  · exact .inl h0
  · exact .inr ⟨g, cap, cur, e, Nat.le_trans hk.size hg, rest⟩
theorem MineG.slice {α : Type} {c : α → List Value} {sz : Nat} {E : TypeId} {W w : World} {v : Value} {L : List α} (h : MineG c sz E W w v L) : ∃ a cp, v = .slice a L.length cp := ownsRow_slice h.own
theorem MineG.at_ {α : Type} {c : α → List Value} {sz : Nat} (hcf : Cf c sz) {E : TypeId} {W w : World} {a : Option Addr} {n cp : Nat} {L : List α} (h : MineG c sz E W w (.slice a n cp) L) : GAt c sz w a L := by
  intro h0
  rcases h.own.2 with ⟨_, e⟩ | ⟨g, cap, cur, e, _⟩
  · omega
  · injection e with e1 e2 e3
    subst e1
    refine ⟨g, 0, rfl, fun i p hi j u hu => ?_⟩
    have hj : j < sz := by have := (List.getElem?_eq_some_iff.1 hu).1; rwa [hcf.len] at this
    have hc := h.own.cells (g := g) rfl
    have := hc (i * sz + j) u (by rw [flatG_get hcf hi hj]; exact hu)
    rw [addr_add0] at this
    rw [Nat.zero_add]; exact this
theorem src_oneG {α : Type} {c : α → List Value} {sz : Nat} (hc : Cf c sz) {P : Program} {t E : TypeId} (ht : P.underlying t = some (.slice E)) (w : World) (p : α) : Src P sz t (.slice (some ⟨w.heap.size, 0, none⟩) 1 1) 1 (c p) (w.alloc (.cells (c p).toArray E)) :=
  Src.ofSlice _ ht _ 1 1 (c p) (by rw [hc.len, Nat.one_mul]) (World.news_of_block (cs := (c p).toArray) (t := E) (fr := (0, 0)) (heap_alloc_new w _)) (hc.one p)
theorem wpList_mineG {α : Type} {c : α → List Value} {sz : Nat} {P : Program} {ops : Array Oper} {rest : List Oper} {o : Oper} {a : Act} {Q : Exit → Act → World → Prop} {w : World} (hgd : o.guard = none) (s x : Operand) {t E : TypeId}
    (ho : o.op = .call { callee := .builtin .append, args := #[s, x], argTypes := #[t, t] })
    (ht : P.underlying t = some (.slice E)) {i : TypeInfo} {z : Value} {by' : Nat} (hi : P.info? E = some i) (hz0 : i.zero = some z) (hz1 : i.size = sz) (hz2 : i.bytes = by') (hz3 : z.cells.size = sz)
    (W : World) (v : Value) (L : List α) (hv : a.eval s = v) (hm : MineG c sz E W w v L)
    (y : Value) (M : List α) (m : Nat) (hmm : M.length = m) (hy : a.eval x = y) (hs : Src P sz t y m (flatG c M) w)
    (hl : L.length + m ≤ 1000000000) (hby : by' ≤ 100000)
    (h : ∀ v' w', MineG c sz E W w' v' (L ++ M) → Kept (fun k => v.ownBlock = some k) w w' → (v'.ownBlock = v.ownBlock ∨ v'.ownBlock = some w.heap.size) → wpList P ops Q rest (a.put o.dst v') w') : wpList P ops Q (o :: rest) a w := by
  have hb : (L.length + m) * by' ≤ 1000000000 * 100000 := Nat.mul_le_mul hl hby
  refine wpList_append_src w hgd s x _ _ ho W.heap.size E i z sz by' ht hi hz0 hz1 hz2 hz3 v L.length (flatG c L) hv hm.own y m (flatG c M) hy hs (by unfold maxLen; omega) (by omega) hm.kept.size ?_
  intro v' w' hown hg _ hat
  refine h v' w' ⟨?_, ?_⟩ ((Kept.refl (fun k => v.ownBlock = some k) w).grown hg (fun k e _ => e)) hat
  · rw [List.length_append, flatG_append, hmm]
    exact hown
  · exact hm.kept.grown hg (fun k e hlt => by have := (ownsRow_lt hm.own e).2; omega)
end Go.Proofs.Ytiiibhdohlpodaa

