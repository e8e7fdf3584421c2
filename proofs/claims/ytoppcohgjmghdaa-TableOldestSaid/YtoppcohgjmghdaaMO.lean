/- Layer 14: rows of texts that are made; the walk of TableOldest. -/
import Derived.Test.YtoppcohgjmghdaaMM
namespace Go.Proofs.Ytoppcohgjmghdaa
open Go.RowKit
attribute [local go_sem ↓] Go.wp_at_zero Go.wp_at_succ

theorem Try.infoT : (Try.prog.info? 9).map (fun i => (i.zero, i.size, i.bytes)) = some (some (.string ByteArray.empty), 1, 16) := by kernel_rfl
theorem strs_append (a b : List ByteArray) : strs (a ++ b) = strs a ++ strs b := List.map_append
theorem wpList_mineT {ops : Array Oper} {rest : List Oper} {o : Oper} {a : Act} {Q : Exit → Act → World → Prop} {w : World} (hgd : o.guard = none) (s x : Operand)
    (ho : o.op = .call { callee := .builtin .append, args := #[s, x], argTypes := #[42, 42] })
    (W : World) (v : Value) (L : List ByteArray) (hv : a.eval s = v) (hm : Mine W w 9 v (strs L))
    (y : Value) (M : List ByteArray) (hy : a.eval x = y) (hs : Src Try.prog 1 42 y (strs M).length (strs M) w)
    (hl : (strs L).length + (strs M).length ≤ 1000000000000)
    (h : ∀ v' w', Mine W w' 9 v' (strs (L ++ M)) → Kept (fun k => v.ownBlock = some k) w w' → (v'.ownBlock = v.ownBlock ∨ v'.ownBlock = some w.heap.size) → wpList Try.prog ops Q rest (a.put o.dst v') w') : wpList Try.prog ops Q (o :: rest) a w := by
  obtain ⟨iI, hiI, hzI0, hzI1, hzI2⟩ := info_parts Try.infoT
  refine wpList_mine2 hgd s x _ _ ho 9 iI (.string ByteArray.empty) 16 Try.underlying42 hiI hzI0 hzI1 hzI2 rfl (by omega) W v (strs L) hv hm y (strs M) hy hs hl ?_
  rw [← strs_append]
  exact h
theorem src_oneT (w : World) (s : ByteArray) : Src Try.prog 1 42 (.slice (some ⟨w.heap.size, 0, none⟩) 1 1) (strs [s]).length (strs [s]) (w.alloc (.cells #[.string s] 9)) := src_one w Try.underlying42 (.string s) rfl
/-- The keys by when they were put down. -/
def keyM (M : List (ByteArray × Th)) : List ByteArray := M.map (·.1)
theorem keyM_len (M : List (ByteArray × Th)) : (keyM M).length = M.length := List.length_map ..
/-- The keys but one. -/
def noK (K : List ByteArray) (s : ByteArray) : List ByteArray := K.filter fun k => decide (k ≠ s)
theorem noK_key (M : List (ByteArray × Th)) (s : ByteArray) (v : Int) (p : Nat) : noK (keyM M) s ++ [s] = keyM (putT M s v p) := by
  unfold noK keyM putT delM
  rw [List.filter_map, List.map_append]
  rfl
theorem noK_succ {K : List ByteArray} {i : Nat} {k : ByteArray} (h : K[i]? = some k) (s : ByteArray) : noK (K.take (i + 1)) s = noK (K.take i) s ++ if k = s then [] else [k] := by
  unfold noK
  rw [List.take_add_one, h, List.filter_append]
  congr 1
  simp only [Option.toList_some, List.filter_cons, List.filter_nil]
  by_cases e : k = s <;> simp [e]
theorem noK_len (K : List ByteArray) (s : ByteArray) (i : Nat) : (noK (K.take i) s).length ≤ K.length := Nat.le_trans (List.length_filter_le _ _) (by rw [List.length_take]; omega)
theorem may_100 {M : List (ByteArray × Th)} (h : M.length ≤ 60) (s : ByteArray) : mayT 100 M s = true := by
  unfold mayT
  rw [room_eq (by unfold I64; omega) (by omega) (by omega)]
  rw [Bool.or_eq_true]
  exact .inr (decide_eq_true (by omega))
theorem drop_del {M : List (ByteArray × Th)} (h : M.Pairwise fun a b => a.1 ≠ b.1) {i : Nat} {q : ByteArray × Th} (hq : M[i]? = some q) : delM (M.drop i) q.1 = M.drop (i + 1) ∧ (getM (M.drop i) q.1).isSome = true ∧ oldT (M.drop i) = q.1 ∧ delM (M.drop (i + 1)) q.1 = M.drop (i + 1) ∧ (getM (M.drop (i + 1)) q.1).isSome = false := by
  obtain ⟨h1, h2⟩ := List.getElem?_eq_some_iff.1 hq
  have hd : M.drop i = q :: M.drop (i + 1) := by rw [List.drop_eq_getElem_cons h1, h2]
  have hp : (q :: M.drop (i + 1)).Pairwise fun a b => a.1 ≠ b.1 := by rw [← hd]; exact h.sublist (List.drop_sublist _ _)
  obtain ⟨h3, h4⟩ := List.pairwise_cons.1 hp
  have hself : delM (M.drop (i + 1)) q.1 = M.drop (i + 1) := List.filter_eq_self.2 (fun x hx => decide_eq_true (h3 x hx).symm)
  rw [hd]
  refine ⟨?_, ?_, rfl, hself, ?_⟩
  · unfold delM
    rw [List.filter_cons, if_neg (by simp)]
    exact hself
  · unfold getM; rw [if_pos rfl]; rfl
  · rw [getM_none.2 (fun x hx => (h3 x hx).symm)]; rfl
/-- A table, and a row of texts made beside it. -/
structure PO (base : Nat) (w : World) (tb mb : Nat) (L M : List (ByteArray × Th)) (p : Nat) : Prop where
  t : TK base w tb mb L 100 M p
  sz : ∀ q ∈ M, q.1.size ≤ maxLen
section
variable {base : Nat} {w w' : World} {tb mb : Nat} {L M : List (ByteArray × Th)} {p : Nat}
theorem PO.kept (h : PO base w tb mb L M p) (k : Kept (fun _ => False) w w') : PO base w' tb mb L M p := ⟨h.t.kept k (fun x => x) (fun x => x), h.sz⟩
theorem PO.foot (h : PO base w tb mb L M p) : ∀ j, tfoot tb mb j → base ≤ j := fun j e => by
  rcases e with e | e <;> rw [e]
  · exact h.t.base.1
  · exact h.t.base.2
theorem PO.lt (h : PO base w tb mb L M p) : ∀ j, tfoot tb mb j → j < w.heap.size := fun j e => by
  rcases e with e | e <;> rw [e]
  · exact h.t.box.lt
  · exact h.t.map.lt
theorem PO.put {s : ByteArray} {v : Int} (h : PO base w tb mb L M p) (ht : TK base w' tb mb (setM L s (v, p)) 100 (putT M s v p) (p + 1)) (hs : s.size ≤ maxLen) : PO base w' tb mb (setM L s (v, p)) (putT M s v p) (p + 1) :=
  ⟨ht, fun q hq => by
    rcases List.mem_append.1 hq with e | e
    · exact h.sz q (delM_mem e).1
    · rw [List.mem_singleton.1 e]; exact hs⟩
end
/-- A row of texts in memory that no table's call writes. -/
structure RT (w : World) (tb mb : Nat) (ao : Option Addr) (c : Nat) (K : List ByteArray) : Prop where
  at_ : SlAt w (.slice ao K.length c) (strs K)
  ap : ∀ a, ao = some a → 0 < K.length → ¬ tfoot tb mb a.block
theorem RT.nil (w : World) (tb mb : Nat) : RT w tb mb none 0 [] := ⟨⟨none, 0, rfl, fun _ => rfl, fun a e => by cases e⟩, fun a e => by cases e⟩
theorem RT.kept {S : Nat → Prop} {w w' : World} {tb mb : Nat} {ao : Option Addr} {c : Nat} {K : List ByteArray} (h : RT w tb mb ao c K) (k : Kept S w w') (hS : ∀ j, S j → tfoot tb mb j) : RT w' tb mb ao c K := by
  refine ⟨?_, h.ap⟩
  rcases Nat.eq_zero_or_pos K.length with h0 | h0
  · obtain rfl : K = [] := List.length_eq_zero_iff.1 h0
    obtain ⟨a1, c1, e, hn, _⟩ := h.at_.val
    exact ⟨a1, c1, e, hn, fun a _ j u hu => by simp [strs] at hu⟩
  · obtain ⟨a1, c1, e, hn, hc⟩ := h.at_.val
    injection e with e1 e2 e3
    subst e1 e3
    exact ⟨ao, c, by rw [strs_length], hn, fun a ha j u hu => k.cell (hc a ha j u hu) (fun x => h.ap a ha h0 (by have := hS _ x; rwa [add_block] at this))⟩
theorem RT.elem {w : World} {tb mb : Nat} {ao : Option Addr} {c : Nat} {K : List ByteArray} (h : RT w tb mb ao c K) {i : Nat} {s : ByteArray} (hi : K[i]? = some s) : ∃ g o, ao = some ⟨g, o, none⟩ ∧ w.cell? ⟨g, o + i, none⟩ = some (.string s) :=
  h.at_.elem (by unfold strs; rw [List.getElem?_map, hi]; rfl)
theorem RT.ofMine {W w : World} {tb mb : Nat} {ao : Option Addr} {n c : Nat} {K : List ByteArray} (h : Mine W w 9 (.slice ao n c) (strs K)) (hn : n = K.length) (hf : ∀ j, tfoot tb mb j → j < W.heap.size) : RT w tb mb ao c K := by
  subst hn
  refine ⟨h.at_, fun a e _ f => ?_⟩
  subst e
  have h1 := (ownsRow_lt h.own (k := a.block) rfl).2
  have h2 := hf _ f
  omega
end Go.Proofs.Ytoppcohgjmghdaa
