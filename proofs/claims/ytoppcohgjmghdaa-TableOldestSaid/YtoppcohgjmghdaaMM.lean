/- Layer 14: a table and the document's list of it, side by side. -/
import Derived.Test.YtoppcohgjmghdaaML
import Derived.Test.YtoppcohgjmghdaaMF
import Derived.Test.YtoppcohgjmghdaaMG
import Derived.Test.YtoppcohgjmghdaaMH
namespace Go.Proofs.Ytoppcohgjmghdaa
open Go.RowKit

theorem TK.down {b0 base : Nat} {w : World} {tb mb : Nat} {L M : List (ByteArray × Th)} {most : Int} {p : Nat} (h : TK base w tb mb L most M p) (hb : b0 ≤ base) : TK b0 w tb mb L most M p :=
  ⟨h.box, h.map, h.perm, h.ok, ⟨Nat.le_trans hb h.base.1, Nat.le_trans hb h.base.2⟩, h.mostR, h.few⟩
theorem getD_atT (M : List (ByteArray × Th)) (s : ByteArray) : (getM (dtM M) s).getD 0 = (atT M s).1 := by
  rw [dtM_get]; unfold atT
  cases getM M s <;> rfl
theorem dtM_some (M : List (ByteArray × Th)) (s : ByteArray) : (getM (dtM M) s).isSome = (getM M s).isSome := by
  rw [dtM_get]
  cases getM M s <;> rfl
theorem may_eq {most : Int} {M : List (ByteArray × Th)} (hm : I64 most) (hf : (M.length : Int) ≤ max 0 most) (h9 : M.length ≤ 1000000) (s : ByteArray) : mayT most M s = mayD most (dtM M) s := by
  unfold mayT mayD
  rw [dtM_some, room_eq hm hf h9, dtM_len]
  congr 1
  refine decide_eq_decide.2 ?_
  omega
theorem putT_len {L M : List (ByteArray × Th)} {p : Nat} (hL : L.Pairwise fun a b => a.1 ≠ b.1) (hM : TOk M p) (h : L.Perm M) (s : ByteArray) (v : Int) : (putT M s v p).length = if getM M s = none then M.length + 1 else M.length := by
  rw [← (perm_putT hL hM h s v).length_eq, setM_len, get_of_perm hL h, h.length_eq]
/-- A table and the document's list of it. -/
structure PT (base : Nat) (w : World) (tb mb : Nat) (L M : List (ByteArray × Th)) (most : Int) (p : Nat) (ao : Option Addr) (i : Nat) : Prop where
  t : TK base w tb mb L most M p
  d : GAt cellsDt 2 w ao (dtM M)
  ap : ∀ a, ao = some a → 0 < (dtM M).length → ¬ tfoot tb mb a.block
  fit : (M.length : Int) ≤ max 0 most
  pi : p ≤ i
  sz : ∀ q ∈ M, q.1.size ≤ maxLen
section
variable {base : Nat} {w w' w1 w2 : World} {tb mb : Nat} {L M : List (ByteArray × Th)} {most : Int} {p i : Nat} {ao : Option Addr}
theorem PT.start (h : TK base w tb mb [] most [] 0) : PT base w tb mb [] [] most 0 none 0 :=
  ⟨h, fun x => absurd x (by simp [dtM]), fun a e => by (cases e), by simp; omega, Nat.le_refl _, fun q hq => by cases hq⟩
theorem PT.kept (h : PT base w tb mb L M most p ao i) (k : Kept (fun _ => False) w w') : PT base w' tb mb L M most p ao i :=
  ⟨h.t.kept k (fun x => x) (fun x => x), h.d.kept k, h.ap, h.fit, h.pi, h.sz⟩
theorem PT.next (h : PT base w tb mb L M most p ao i) : PT base w tb mb L M most p ao (i + 1) :=
  ⟨h.t, h.d, h.ap, h.fit, Nat.le_succ_of_le h.pi, h.sz⟩
theorem PT.len (h : PT base w tb mb L M most p ao i) : M.length ≤ i := Nat.le_trans h.t.few.1 h.pi
theorem PT.foot (h : PT base w tb mb L M most p ao i) : ∀ j, tfoot tb mb j → base ≤ j := fun j e => by
  rcases e with e | e <;> rw [e]
  · exact h.t.base.1
  · exact h.t.base.2
theorem PT.mid (h : PT base w tb mb L M most p ao i) (k : Kept (tfoot tb mb) w w') : GAt cellsDt 2 w' ao (dtM M) := h.d.keptS k h.ap
theorem PT.lt (h : PT base w tb mb L M most p ao i) : ∀ j, tfoot tb mb j → j < w.heap.size := fun j e => by
  rcases e with e | e <;> rw [e]
  · exact h.t.box.lt
  · exact h.t.map.lt
theorem PT.may (h : PT base w tb mb L M most p ao i) (h60 : i ≤ 60) (s : ByteArray) : mayT most M s = mayD most (dtM M) s :=
  may_eq h.t.mostR h.fit (by have := h.len; omega) s
theorem PT.stay (h : PT base w tb mb L M most p ao i) (ht : TK base w' tb mb L most M p) (k : Kept (tfoot tb mb) w w') : PT base w' tb mb L M most p ao (i + 1) :=
  ⟨ht, h.mid k, h.ap, h.fit, Nat.le_succ_of_le h.pi, h.sz⟩
theorem mineG_new {c : Dt → List Value} {E : TypeId} {W w : World} {a : Option Addr} {n cp : Nat} {N : List Dt} (h : MineG c 2 E W w (.slice a n cp) N) : ∀ x, a = some x → W.heap.size ≤ x.block := fun x e => by
  subst e
  exact (ownsRow_lt h.own (k := x.block) rfl).2
theorem PT.put {a : Option Addr} {n c : Nat} {s : ByteArray} {v : Int} (h : PT base w tb mb L M most p ao i) (hm : MineG cellsDt 2 54 w w1 (.slice a n c) (dtM (putT M s v p)))
    (ht : TK base w2 tb mb (setM L s (v, p)) most (putT M s v p) (p + 1)) (k : Kept (tfoot tb mb) w1 w2) (hmay : mayD most (dtM M) s = true) (hs : s.size ≤ maxLen) : PT base w2 tb mb (setM L s (v, p)) (putT M s v p) most (p + 1) a (i + 1) := by
  have hap : ∀ x, a = some x → 0 < (dtM (putT M s v p)).length → ¬ tfoot tb mb x.block := fun x e _ f => by
    have h1 := mineG_new hm x e
    have h2 := h.lt _ f
    omega
  refine ⟨ht, (hm.at_ cfDt).keptS k hap, hap, ?_, by have := h.pi; omega, fun q hq => ?_⟩
  · rw [putT_len h.t.pair h.t.ok h.t.perm]
    have hf := h.fit
    unfold mayD at hmay
    rw [dtM_some, dtM_len] at hmay
    cases hg : getM M s with
    | none =>
      rw [hg] at hmay
      have := of_decide_eq_true (by simpa using hmay : decide ((M.length : Int) < most) = true)
      rw [if_pos rfl]
      omega
    | some x => rw [if_neg (by simp)]; exact hf
  · rcases List.mem_append.1 hq with e | e
    · exact h.sz q (delM_mem e).1
    · rw [List.mem_singleton.1 e]; exact hs
theorem PT.del {a : Option Addr} {n c : Nat} {s : ByteArray} (h : PT base w tb mb L M most p ao i) (k : Kept (tfoot tb mb) w w1) (ht : TK base w1 tb mb (delM L s) most (delM M s) p)
    (hm : MineG cellsDt 2 54 w1 w2 (.slice a n c) (dtM (delM M s))) : PT base w2 tb mb (delM L s) (delM M s) most p a (i + 1) := by
  refine ⟨ht.kept hm.kept (fun x => x) (fun x => x), hm.at_ cfDt, fun x e _ f => ?_, ?_, Nat.le_succ_of_le h.pi, fun q hq => h.sz q (delM_mem hq).1⟩
  · have h1 := mineG_new hm x e
    have h2 := h.lt _ f
    have h3 := k.size
    omega
  · have : (delM M s).length ≤ M.length := List.length_filter_le _ _
    have := h.fit
    omega
theorem PT.same (h : PT base w tb mb L M most p ao i) (h60 : i ≤ 60) (c : Nat) :
    Calls Try.prog 15 #[.pointer (some ⟨tb, 0, none⟩), .slice ao (dtM M).length c, .int .i64 most] w fun e w' => e = .returned (.bool true) ∧ Kept (fun _ => False) w w' :=
  same14_any base tb mb L M most p ao c w h.t h.d h.fit (by have := h.len; omega) h.sz
end
/-- The same, of the slice that the law holds. -/
def PM (base : Nat) (w : World) (tb mb : Nat) (most : Int) (i : Nat) (v : Value) : Prop := ∃ ao c L M p, v = .slice ao (dtM M).length c ∧ PT base w tb mb L M most p ao i
end Go.Proofs.Ytoppcohgjmghdaa
