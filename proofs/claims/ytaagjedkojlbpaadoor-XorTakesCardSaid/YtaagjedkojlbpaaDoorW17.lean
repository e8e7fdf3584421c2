/- Layer 7: the walk of 'XorRows'. -/
import Derived.Test.YtaagjedkojlbpaaDoorW16
namespace Go.Proofs.YtaagjedkojlbpaaDoor
open Go.RowKit
attribute [local go_sem ↓] Go.wp_at_zero Go.wp_at_succ

theorem ownT {w : World} {B : Nat} {v : Value} {xs : List Value} {n s : Nat} {T E : TypeId} {cs : Array Value} {fr : Nat × Nat} {k : Nat} (ho : w.ownsRow B E s v n xs) (hb : w.heap[k]? = some (.cells cs T fr)) (hne : E ≠ T) : v.ownBlock ≠ some k := by
  intro e
  obtain ⟨cur, hc⟩ := ownsRow_block ho e
  rw [hb] at hc
  injection hc with this; injection this with _ e _
  exact hne e.symm
theorem ownO {w : World} {B B' : Nat} {v v' : Value} {xs ys : List Value} {n s n' s' : Nat} {E E' : TypeId} (h1 : w.ownsRow B E s v n xs) (h2 : w.ownsRow B' E' s' v' n' ys) (hne : E ≠ E') : ∀ k, v.ownBlock = some k → v'.ownBlock ≠ some k := by
  intro k e1 e2
  obtain ⟨cur, hc⟩ := ownsRow_block h2 e2
  exact ownT h1 hc hne e1
theorem boxT {w : World} {k j : Nat} {T T' : TypeId} {cs cs' : Array Value} {fr fr' : Nat × Nat} (h1 : w.heap[k]? = some (.cells cs T fr)) (h2 : w.heap[j]? = some (.cells cs' T' fr')) (hne : T ≠ T') : k ≠ j := by
  rintro rfl
  rw [h1] at h2
  injection h2 with h2
  injection h2 with _ e _
  exact hne e
theorem WX.keptS {S : Nat → Prop} {W w w' : World} {p r : Nat} {v : Value} {bs : List Bool} {n last f s : Nat} (h : WX W w p r v bs n last f s) (k : Kept S w w') (hp : ¬ S p) (hv : ∀ k, v.ownBlock = some k → ¬ S k) (hr : ¬ S r) (hs : ∀ k, S k → W.heap.size ≤ k) : WX W w' p r v bs n last f s :=
  ⟨h.bw.kept k hp hv, h.row.kept k hr, h.base, h.kept.newer k hs⟩
/-- What XorRows holds: a writer and a row with i floats, the document's row with j, and the bits of m. -/
structure XS (W w : World) (p r sq : Nat) (v sv va : Value) (l : List Nat) (i j m : Nat) : Prop where
  rx : RX W w p r v l i
  st : StBox w sq sv (winX l j).1 (winX l j).2
  sl : Mine W w 28 sv (xvals (l.take j))
  ma : Mine W w 3 va (ints (rowX l m))
  sb : W.heap.size ≤ sq
section
variable {W w w' : World} {p r sq : Nat} {v sv va : Value} {l : List Nat} {i j m : Nat}
theorem XS.on (h : XS W w p r sq v sv va l i j m) (hk : Kept (fun _ => False) w w') : XS W w' p r sq v sv va l i j m :=
  ⟨h.rx.on hk, h.st.same hk (fun x => x), h.sl.on hk, h.ma.on hk, h.sb⟩
theorem XS.stRow {n last f s : Nat} {q : Nat} (h : XS W w p r sq v sv va l i j m) (hq : XRow w q n last f s) : q ≠ sq := boxT hq h.st (by decide)
theorem XS.xput {x : Nat} {e : Ending} (h : XS W w p r sq v sv va l i j m) (hx : x = l.getD i 0) (ht : XPut w W.heap.size p r v (rowX l i) i (lastN l i) (winX l i).1 (winX l i).2 x e w') :
    e = .returned (.tuple #[]) ∧ ∃ v', XS W w' p r sq v' sv va l (i + 1) j m := by
  have hsv := h.rx.bw.apartO h.sl.own (by decide) (by decide)
  have hva := h.rx.bw.apartO h.ma.own (by decide) (by decide)
  have hst := h.rx.bw.apartT h.st (by decide) (by decide)
  have hsr := boxT h.st h.rx.row (by decide)
  have hwx : WX W w p r v (rowX l i) i (lastN l i) (winX l i).1 (winX l i).2 := h.rx
  obtain ⟨he, v', hv'⟩ := hwx.rput ht
  obtain ⟨_, _, _, _, _, k⟩ := ht
  have hs : ∀ k, (k = p ∨ v.ownBlock = some k ∨ k = r) → W.heap.size ≤ k := by
    rintro k (rfl | e | rfl)
    · exact h.rx.bw.base
    · exact (ownsRow_lt h.rx.bw.owns e).2
    · exact h.rx.base
  refine ⟨he, v', ⟨?_, h.st.same k ?_, h.sl.keptS k ?_ hs, h.ma.keptS k ?_ hs, h.sb⟩⟩
  · unfold RX
    rw [lastN_succ, ← hx]
    simp only [rowX, winX, ← hx]
    exact hv'
  · rintro (e | e | e)
    · exact hst.1 e
    · exact hst.2 e
    · exact hsr e
  · rintro k e (e2 | e2 | e2)
    · exact (hsv k e).1 e2
    · exact (hsv k e).2 e2
    · subst e2; exact ownT h.sl.own h.rx.row (by decide) e
  · rintro k e (e2 | e2 | e2)
    · exact (hva k e).1 e2
    · exact (hva k e).2 e2
    · subst e2; exact ownT h.ma.own h.rx.row (by decide) e
/-- The document's row goes on. -/
theorem XS.setSt (h : XS W w p r sq v sv va l i j m) (sv' : Value) (F S : Nat) (hm : Mine W w 28 sv' (xvals (l.take (j + 1)))) (hw : winX l (j + 1) = (F, S)) :
    XS W (set3 w sq sv' (.int .i64 (F : Int)) (.int .i64 (S : Int))) p r sq v sv' va l i (j + 1) m := by
  have k := set3_kept w sq sv' (.int .i64 (F : Int)) (.int .i64 (S : Int))
  have hst := h.rx.bw.apartT h.st (by decide) (by decide)
  have hsr := boxT h.st h.rx.row (by decide)
  have hs : ∀ k, k = sq → W.heap.size ≤ k := fun k e => by have := h.sb; omega
  refine ⟨WX.keptS h.rx k (fun e => hst.1 e.symm) (fun k e x => hst.2 (by rw [e, x])) (fun e => hsr e.symm) hs, ?_, hm.keptS k (fun k e x => ownT hm.own h.st (by decide) (by rw [e, x])) hs, h.ma.keptS k (fun k e x => ownT h.ma.own h.st (by decide) (by rw [e, x])) hs, h.sb⟩
  rw [hw]
  exact h.st.set sv' F S
/-- The bits go on. -/
theorem XS.addMa {va' : Value} {bits : List Bool} (h : XS W w p r sq v sv va l i j m) (hm : Mine W w' 3 va' (ints (rowX l m) ++ ints bits)) (k : Kept (fun k => va.ownBlock = some k) w w') (hb : rowX l (m + 1) = rowX l m ++ bits) : XS W w' p r sq v sv va' l i j (m + 1) := by
  have hva := h.rx.bw.apartO h.ma.own (by decide) (by decide)
  have hs : ∀ k, va.ownBlock = some k → W.heap.size ≤ k := fun k e => (ownsRow_lt h.ma.own e).2
  refine ⟨WX.keptS h.rx k (fun e => (hva _ e).1 rfl) (fun k e x => (hva _ x).2 e) (ownT h.ma.own h.rx.row (by decide)) hs, h.st.same k (ownT h.ma.own h.st (by decide)), h.sl.keptS k (ownO h.sl.own h.ma.own (by decide)) hs, ?_, h.sb⟩
  rw [hb, ints_append]
  exact hm
end
theorem take_lastN (l : List Nat) (i : Nat) (h : i ≤ l.length) : (l.take i).length = i ∧ lastN (l.take i) i = lastN l i := by
  have e : (l.take i).length = i := by rw [List.length_take]; omega
  refine ⟨e, ?_⟩
  conv => rhs; rw [← List.take_append_drop i l]
  rw [lastN_append _ _ _ (by omega)]
theorem take_snocU (l : List Nat) (i : Nat) (h : i < l.length) : l.take i ++ [l.getD i 0] = l.take (i + 1) := by
  rw [List.take_add_one, List.getElem?_eq_getElem h, List.getD_eq_getElem?_getD, List.getElem?_eq_getElem h]
  rfl
/-- A row's bits, parted at a float. -/
theorem rowX_part (l : List Nat) (i k : Nat) : ∃ rest, rowX l (i + k) = rowX l i ++ rest := by
  induction k with
  | zero => exact ⟨[], by simp⟩
  | succ k ih =>
    obtain ⟨r, hr⟩ := ih
    exact ⟨r ++ (nextP (i + k) (lastN l (i + k)) (winX l (i + k)).1 (winX l (i + k)).2 (l.getD (i + k) 0)).1, by rw [← Nat.add_assoc]; simp only [rowX, hr, List.append_assoc]⟩
theorem rowX_next (l : List Nat) (i n : Nat) (h : i < n) (hb : ∀ x ∈ l, x < 18446744073709551616) :
    getP i (lastN l i) (winX l i).1 (winX l i).2 ((rowX l n).drop (rowX l i).length) = (l.getD i 0, (nextP i (lastN l i) (winX l i).1 (winX l i).2 (l.getD i 0)).1.length, 0, (winX l (i + 1)).1, (winX l (i + 1)).2) := by
  obtain ⟨rest, hr⟩ := rowX_part l (i + 1) (n - (i + 1))
  rw [show i + 1 + (n - (i + 1)) = n by omega] at hr
  rw [hr]
  simp only [rowX]
  rw [List.append_assoc, List.drop_left]
  exact getP_put _ _ _ _ _ _ (getN_lt hb i) (lastN_lt hb i) (winX_ok hb i)
theorem rowX_le (l : List Nat) (i n : Nat) (h : i ≤ n) : (rowX l i).length ≤ (rowX l n).length := by
  obtain ⟨rest, hr⟩ := rowX_part l i (n - i)
  rw [show i + (n - i) = n by omega] at hr
  rw [hr, List.length_append]; omega
end Go.Proofs.YtaagjedkojlbpaaDoor
