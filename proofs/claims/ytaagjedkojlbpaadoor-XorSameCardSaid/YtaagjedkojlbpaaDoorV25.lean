/- Layer 6: slices that came in; two writers and two rows side by side. -/
import Derived.Test.YtaagjedkojlbpaaDoorV24
namespace Go.Proofs.YtaagjedkojlbpaaDoor
open Go.RowKit
attribute [local go_sem ↓] Go.wp_at_zero Go.wp_at_succ

/-- A slice of integers that came in, as the row of its elements. -/
theorem IsRow.slAtI {k : IntKind} {w : World} {a : Option Addr} {len cap : Nat} {zs : List Int} (h : IsRow k w a len cap zs) :
    ∃ l : List Int, l.length = len ∧ (∀ x ∈ l, (Lit.int k x).wf = true) ∧ SlAt w (.slice a len cap) (l.map (Value.int k)) := by
  rcases h with ⟨rfl, rfl, rfl, rfl⟩ | ⟨x, rfl, hlc, _, hz, hcell, hwf⟩
  · exact ⟨[], rfl, by simp, ⟨none, 0, rfl, fun _ => rfl, by simp⟩⟩
  · refine ⟨zs.take len, by simp; omega, fun y hy => hwf y (List.mem_of_mem_take hy), ⟨some x, cap, ?_, (fun e => by cases e), ?_⟩⟩
    · rw [List.length_map, List.length_take, Nat.min_eq_left (by omega)]
    · intro a ha j u hu
      cases ha
      have hj : j < len := by
        have := (List.getElem?_eq_some_iff.1 hu).1
        simp at this; omega
      have hjz : j < zs.length := by omega
      rw [hcell j hjz, List.getD_eq_getElem?_getD, List.getElem?_eq_getElem hjz]
      simp only [List.getElem?_map, List.getElem?_take, if_pos hj, List.getElem?_eq_getElem hjz, Option.map_some] at hu
      exact hu
theorem IsRow.slAtN {k : IntKind} {w : World} {a : Option Addr} {len cap : Nat} {zs : List Int} (M : Nat) (hk : ∀ x, (Lit.int k x).wf = true → 0 ≤ x ∧ x < M) (h : IsRow k w a len cap zs) :
    ∃ l : List Nat, l.length = len ∧ (∀ x ∈ l, x < M) ∧ SlAt w (.slice a len cap) (l.map fun (n : Nat) => Value.int k (n : Int)) := by
  obtain ⟨l, hl, hb, hv⟩ := h.slAtI
  refine ⟨l.map Int.toNat, by simpa using hl, ?_, ?_⟩
  · intro n hn
    obtain ⟨m, hm, rfl⟩ := List.mem_map.1 hn
    have := hk m (hb m hm)
    omega
  · have e : (l.map Int.toNat).map (fun (n : Nat) => Value.int k (n : Int)) = l.map (Value.int k) := by
      rw [List.map_map]
      apply List.map_congr_left
      intro m hm
      have := hk m (hb m hm)
      simp only [Function.comp_apply]
      congr 1
      omega
    rw [e]; exact hv
theorem wf_u64 (x : Int) (h : (Lit.int .u64 x).wf = true) : 0 ≤ x ∧ x < (18446744073709551616 : Nat) := by
  have := bd_u64 h; omega


theorem BwAt.apartO {w : World} {B B' p s n : Nat} {v v' : Value} {bs : List Bool} {E : TypeId} {xs : List Value} (h : BwAt w B p v bs) (ho : w.ownsRow B' E s v' n xs) (h1 : E ≠ 74) (h2 : E ≠ 5) : ∀ k, v'.ownBlock = some k → k ≠ p ∧ v.ownBlock ≠ some k := by
  intro k e
  obtain ⟨cur, hc⟩ := ownsRow_block ho e
  exact h.apartT hc h1 h2

theorem wpList_mineI2 {ops : Array Oper} {rest : List Oper} {o : Oper} {a : Act} {Q : Exit → Act → World → Prop} {w : World} (hgd : o.guard = none) (s x : Operand)
    (ho : o.op = .call { callee := .builtin .append, args := #[s, x], argTypes := #[26, 26] })
    (W : World) (v : Value) (xs : List Value) (hv : a.eval s = v) (hm : Mine W w 3 v xs)
    (y : Value) (news : List Value) (hy : a.eval x = y) (hs : Src Tryd.prog 1 26 y news.length news w)
    (hl : xs.length + news.length ≤ 1000000000000)
    (h : ∀ v' w', Mine W w' 3 v' (xs ++ news) → Kept (fun k => v.ownBlock = some k) w w' → (v'.ownBlock = v.ownBlock ∨ v'.ownBlock = some w.heap.size) → wpList Tryd.prog ops Q rest (a.put o.dst v') w') : wpList Tryd.prog ops Q (o :: rest) a w := by
  obtain ⟨iI, hiI, hzI0, hzI1, hzI2⟩ := info_parts Tryd.infoInt
  refine wpList_append_src w hgd s x 26 26 ho W.heap.size 3 iI (.int .i64 0) 1 8 Tryd.underlying26 hiI hzI0 hzI1 hzI2 rfl v xs.length xs hv hm.own y news.length news hy hs (by unfold maxLen; omega) (by omega) hm.kept.size ?_
  intro v' w' hown hg _ hat
  refine h v' w' ⟨by rw [List.length_append]; exact hown, hm.kept.grown hg (fun k e hlt => ?_)⟩ ((Kept.refl (fun k => v.ownBlock = some k) w).grown hg (fun k e _ => e)) hat
  have := (ownsRow_lt hm.own e).2; omega
theorem Mine.keptS {S : Nat → Prop} {W w w' : World} {E : TypeId} {v : Value} {xs : List Value} (h : Mine W w E v xs) (hk : Kept S w w') (hn : ∀ k, v.ownBlock = some k → ¬ S k) (hs : ∀ k, S k → W.heap.size ≤ k) : Mine W w' E v xs := ⟨hk.owns h.own hn, h.kept.newer hk hs⟩

/-- Two writers, and two rows of noughts and ones. -/
structure Two (W w : World) (p q : Nat) (v1 v2 : Value) (A B : List Bool) (va vb : Value) (C D : List Bool) : Prop where
  b1 : BwAt w W.heap.size p v1 A
  b2 : BwAt w W.heap.size q v2 B
  ne : p ≠ q
  nv : ∀ k, v1.ownBlock = some k → v2.ownBlock ≠ some k
  ma : Mine W w 3 va (ints C)
  mb : Mine W w 3 vb (ints D)
  nm : ∀ k, va.ownBlock = some k → vb.ownBlock ≠ some k
section
variable {W w w' : World} {p q : Nat} {v1 v2 va vb : Value} {A B C D A2 : List Bool}
theorem Two.on (h : Two W w p q v1 v2 A B va vb C D) (hk : Kept (fun _ => False) w w') : Two W w' p q v1 v2 A B va vb C D :=
  ⟨h.b1.keptF hk, h.b2.keptF hk, h.ne, h.nv, h.ma.on hk, h.mb.on hk, h.nm⟩
theorem bw_new {v v' u : Value} (ha : v'.ownBlock = v.ownBlock ∨ ∃ k, v'.ownBlock = some k ∧ w.heap.size ≤ k) (h : ∀ k, v.ownBlock = some k → u.ownBlock ≠ some k) (hu : ∀ k, u.ownBlock = some k → k < w.heap.size) : ∀ k, v'.ownBlock = some k → u.ownBlock ≠ some k := by
  intro k e e2
  rcases ha with ha | ⟨g, e3, hg⟩
  · exact h k (ha ▸ e) e2
  · rw [e3] at e; cases e; have := hu _ e2; omega
theorem Two.put1 (h : Two W w p q v1 v2 A B va vb C D) (ht : BwTo w w' W.heap.size p v1 A2) : ∃ v1', Two W w' p q v1' v2 A2 B va vb C D := by
  obtain ⟨v1', h1, a1, k1⟩ := ht
  have n2 := h.b1.apartO h.ma.own (by decide) (by decide)
  have n3 := h.b1.apartO h.mb.own (by decide) (by decide)
  have hs : ∀ i, (i = p ∨ v1.ownBlock = some i) → W.heap.size ≤ i := by
    rintro i (rfl | e)
    · exact h.b1.base
    · exact (ownsRow_lt h.b1.owns e).2
  have hq : v1.ownBlock ≠ some q := by
    intro e
    obtain ⟨cur, hc⟩ := ownsRow_block h.b1.owns e
    rw [h.b2.box] at hc
    injection hc with this; injection this with _ e _
    exact absurd e (by decide)
  refine ⟨v1', h1, h.b2.kept k1 (fun e => e.elim (fun e => h.ne e.symm) hq) (fun k e x => x.elim (fun x => ?_) (fun x => h.nv k x e)), h.ne, ?_, h.ma.keptS k1 (fun k e x => x.elim (n2 k e).1 (n2 k e).2) hs, h.mb.keptS k1 (fun k e x => x.elim (n3 k e).1 (n3 k e).2) hs, h.nm⟩
  · subst x
    obtain ⟨cur, hc⟩ := ownsRow_block h.b2.owns e
    rw [h.b1.box] at hc
    injection hc with this; injection this with _ e _
    exact absurd e (by decide)
  · exact bw_new a1 h.nv (fun k e => (ownsRow_lt h.b2.owns e).1)
theorem Two.swap (h : Two W w p q v1 v2 A B va vb C D) : Two W w q p v2 v1 B A vb va D C :=
  ⟨h.b2, h.b1, fun e => h.ne e.symm, fun k e e2 => h.nv k e2 e, h.mb, h.ma, fun k e e2 => h.nm k e2 e⟩
theorem Two.put2 (h : Two W w p q v1 v2 A B va vb C D) (ht : BwTo w w' W.heap.size q v2 A2) : ∃ v2', Two W w' p q v1 v2' A A2 va vb C D := by
  obtain ⟨v2', h2⟩ := h.swap.put1 ht
  exact ⟨v2', h2.swap⟩
theorem Two.add1 (h : Two W w p q v1 v2 A B va vb C D) {va' : Value} {E : List Bool} (hm : Mine W w' 3 va' (ints C ++ ints E)) (hk : Kept (fun k => va.ownBlock = some k) w w') (ha : va'.ownBlock = va.ownBlock ∨ va'.ownBlock = some w.heap.size) : Two W w' p q v1 v2 A B va' vb (C ++ E) D := by
  have n1 := h.b1.apartO h.ma.own (by decide) (by decide)
  have n2 := h.b2.apartO h.ma.own (by decide) (by decide)
  refine ⟨h.b1.kept hk (fun e => (n1 p e).1 rfl) (fun k e x => (n1 k x).2 e), h.b2.kept hk (fun e => (n2 q e).1 rfl) (fun k e x => (n2 k x).2 e), h.ne, h.nv, by rw [ints_append]; exact hm, h.mb.keptS hk (fun k e x => h.nm k x e) (fun i e => (ownsRow_lt h.ma.own e).2), ?_⟩
  exact bw_new (by rcases ha with ha | ha; exact .inl ha; exact .inr ⟨_, ha, Nat.le_refl _⟩) h.nm (fun k e => (ownsRow_lt h.mb.own e).1)
theorem Two.add2 (h : Two W w p q v1 v2 A B va vb C D) {vb' : Value} {E : List Bool} (hm : Mine W w' 3 vb' (ints D ++ ints E)) (hk : Kept (fun k => vb.ownBlock = some k) w w') (ha : vb'.ownBlock = vb.ownBlock ∨ vb'.ownBlock = some w.heap.size) : Two W w' p q v1 v2 A B va vb' C (D ++ E) :=
  (h.swap.add1 hm hk ha).swap
end
end Go.Proofs.YtaagjedkojlbpaaDoor
