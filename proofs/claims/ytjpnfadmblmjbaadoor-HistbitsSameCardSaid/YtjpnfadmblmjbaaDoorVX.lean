/- Parts of the texts of layer 6 that layer 7 needs. -/
import Derived.Test.YtjpnfadmblmjbaaDoorV17
import Derived.Test.YtjpnfadmblmjbaaDoorL3
namespace Go.Proofs.YtjpnfadmblmjbaaDoor
open Go.RowKit
attribute [local go_sem ↓] Go.wp_at_zero Go.wp_at_succ

theorem take1 (l : List Bool) (t m : Nat) (hm : t + m < l.length) : (l.drop (t + m)).take 1 = [(l.drop t).getD m false] := by
  rw [List.drop_eq_getElem_cons hm, List.getD_eq_getElem?_getD, List.getElem?_drop, List.getElem?_eq_getElem hm]; rfl

theorem numB_two (l : List Bool) (S : Nat) : numB (l.take S) < 2 ^ S := Nat.lt_of_lt_of_le (numB_lt _) (Nat.pow_le_pow_right (by omega) (by rw [List.length_take]; omega))

theorem bitsN_numB_all (l : List Bool) : bitsN (numB l) l.length = l := by
  apply List.ext_getElem?
  intro i
  rw [bitsN_get]
  by_cases h : i < l.length
  · rw [if_pos h, numB_testBit, List.getElem?_eq_getElem h]
    have e : l.length - 1 - (l.length - 1 - i) = i := by omega
    rw [e, List.getD_eq_getElem?_getD, List.getElem?_eq_getElem h]
    simp; omega
  · rw [if_neg h, List.getElem?_eq_none (by omega)]
theorem bitsN_numB_take (l : List Bool) (n : Nat) (h : n ≤ l.length) : bitsN (numB (l.take n)) n = l.take n := by
  have := bitsN_numB_all (l.take n)
  rw [List.length_take, Nat.min_eq_left h] at this
  exact this

theorem BwAt.apartT {w : World} {B p r : Nat} {v : Value} {bs : List Bool} {cs : Array Value} {T : TypeId} {fr : Nat × Nat} (h : BwAt w B p v bs) (hr : w.heap[r]? = some (.cells cs T fr)) (h1 : T ≠ 80) (h2 : T ≠ 5) : r ≠ p ∧ v.ownBlock ≠ some r := by
  refine ⟨?_, ?_⟩
  · rintro rfl
    have := h.box
    rw [hr] at this
    injection this with this; injection this with _ e _
    exact h1 e
  · intro e
    obtain ⟨cur, hc⟩ := ownsRow_block h.owns e
    rw [hr] at hc
    injection hc with this; injection this with _ e _
    exact h2 e
theorem bytesStr (W w : World) (p : Nat) (v : Value) (bs : List Bool) (h : BwAt w W.heap.size p v bs) (hl : bs.length ≤ 100000000) :
    Calls Tryd.prog 17 #[.pointer (some ⟨p, 0, none⟩)] w fun e w' => ∃ vb, e = .returned vb ∧ (∀ w'', Kept (fun _ => False) w' w'' → (convert 33 9 vb).run Tryd.prog w'' = .ok (.string (strN (packB bs))) w'') ∧ Kept (fun _ => False) w w' := by
  refine (bwbytes_any W.heap.size p v bs w h (by omega)).mono ?_
  rintro e w' ⟨vb, rfl, ho, hk⟩
  exact ⟨vb, rfl, fun w'' hk2 => run_strN ((SlAt.ofOwn ho).kept hk2 (fun _ _ x => x)) 33 5 9 Tryd.underlying33 Tryd.underlying5 Tryd.underlying9, hk⟩

theorem BwAt.apartO {w : World} {B B' p s n : Nat} {v v' : Value} {bs : List Bool} {E : TypeId} {xs : List Value} (h : BwAt w B p v bs) (ho : w.ownsRow B' E s v' n xs) (h1 : E ≠ 80) (h2 : E ≠ 5) : ∀ k, v'.ownBlock = some k → k ≠ p ∧ v.ownBlock ≠ some k := by
  intro k e
  obtain ⟨cur, hc⟩ := ownsRow_block ho e
  exact h.apartT hc h1 h2

theorem wpList_mineI2 {ops : Array Oper} {rest : List Oper} {o : Oper} {a : Act} {Q : Exit → Act → World → Prop} {w : World} (hgd : o.guard = none) (s x : Operand)
    (ho : o.op = .call { callee := .builtin .append, args := #[s, x], argTypes := #[26, 26] })
    (W : World) (v : Value) (xs : List Value) (hv : a.eval s = v) (hm : Mine W w 3 v xs)
    (y : Value) (news : List Value) (hy : a.eval x = y) (hs : Src Tryd.prog 1 26 y news.length news w)
    (hl : xs.length + news.length ≤ 1000000000000)
    (h : ∀ v' w', Mine W w' 3 v' (xs ++ news) → Kept (fun k => v.ownBlock = some k) w w' → (v'.ownBlock = v.ownBlock ∨ v'.ownBlock = some w.heap.size) → wpList Tryd.prog ops Q rest (a.put o.dst v') w') : wpList Tryd.prog ops Q (o :: rest) a w := by
  obtain ⟨iI, hiI, hzI0, hzI1, hzI2⟩ := info_parts Tryd.infoInt
  refine wpList_append_src w hgd s x 26 26 ho W.heap.size 3 iI (.int .i64 0) 1 8 Tryd.underlying26 hiI hzI0 hzI1 hzI2 rfl v xs.length xs hv hm.own y news.length news hy hs (by unfold maxLen; omega) (by omega) hm.kept.size ?_
  intro v' w' hown hg _ hat
  refine h v' w' ⟨by rw [List.length_append]; exact hown, hm.kept.grown hg (fun k e hlt => ?_)⟩ ((Kept.refl (fun k => v.ownBlock = some k) w).grown hg (fun k e _ => e)) hat
  have := (ownsRow_lt hm.own e).2; omega
end Go.Proofs.YtjpnfadmblmjbaaDoor
