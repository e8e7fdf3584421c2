/- package pack: writers and readers that were made behind a world, as their callers see them. -/
import Derived.Test.YtkidbbmdlmnokaaQ7
namespace Go.Proofs.Ytkidbbmdlmnokaa
open Go.RowKit
attribute [local go_sem ↓] Go.wp_at_zero Go.wp_at_succ

/-- A writer that was made behind the world W has so many bytes; nothing older has changed. -/
def WK (W w : World) (p : Nat) (l : List Int) : Prop := ∃ v, WrAt 110 5 w W.heap.size p v l ∧ Kept (fun _ => False) W w
theorem WK.to {W w w' : World} {p : Nat} {v : Value} {l l' : List Int} (h : WrAt 110 5 w W.heap.size p v l) (hk : Kept (fun _ => False) W w) (ht : WrTo 110 5 w w' W.heap.size p v l') : WK W w' p l' := by
  obtain ⟨v1, H1, A1, K1⟩ := ht
  refine ⟨v1, H1, hk.step K1 (fun j hj hS => ?_)⟩
  rcases hS with rfl | hS
  · have := h.base; omega
  · have := (ownsRow_lt h.owns hS).2; omega
theorem WK.kept {W w w' : World} {p : Nat} {l : List Int} (h : WK W w p l) (k : Kept (fun _ => False) w w') : WK W w' p l := by
  obtain ⟨v, hw, hk⟩ := h
  exact ⟨v, hw.kept k (fun x => x) (fun _ _ x => x), hk.trans k⟩
theorem WK.old {W w : World} {p : Nat} {l : List Int} (h : WK W w p l) : Kept (fun _ => False) W w := h.elim fun _ h => h.2
theorem wkNew_any (w : World) : Calls Try.prog 47 #[] w fun e w' => ∃ p, e = .returned (.pointer (some ⟨p, 0, none⟩)) ∧ WK w w' p [] := by
  refine (newWriter_any w).mono ?_
  rintro e w' ⟨rfl, hw⟩
  exact ⟨_, rfl, _, by rw [hw]; exact newWriter_at w.heap.size w (Nat.le_refl _), by rw [hw]; exact (Kept.refl _ _).alloc _⟩
theorem wkNum_any {W w : World} {p : Nat} {l : List Int} (x : Int) (h : WK W w p l) (h0 : 0 ≤ x) (h1 : x ≤ 18446744073709551615) (hl : l.length ≤ 1000000000) :
    Calls Try.prog 48 #[.pointer (some ⟨p, 0, none⟩), .int .u64 x] w fun e w' => e = .returned (.tuple #[]) ∧ WK W w' p (l ++ numB x) := by
  obtain ⟨v, hw, hk⟩ := h
  refine (num_any W.heap.size p v l x w hw hk.size h0 h1 hl).mono ?_
  rintro e w' ⟨rfl, ht⟩
  exact ⟨rfl, WK.to hw hk ht⟩
theorem wkText_any {W w : World} {p : Nat} {l : List Int} (s : ByteArray) (h : WK W w p l) (hs : s.size ≤ 1000000000) (hl : l.length ≤ 1000000000) :
    Calls Try.prog 54 #[.pointer (some ⟨p, 0, none⟩), .string s] w fun e w' => e = .returned (.tuple #[]) ∧ WK W w' p (l ++ numB s.size ++ strB s) := by
  obtain ⟨v, hw, hk⟩ := h
  refine (text_any W.heap.size p v l s w hw hk.size hs hl).mono ?_
  rintro e w' ⟨rfl, ht⟩
  exact ⟨rfl, WK.to hw hk ht⟩
theorem wkBytes_any {W w : World} {p : Nat} {l : List Int} (h : WK W w p l) (hl : l.length ≤ 100000000000) :
    Calls Try.prog 58 #[.pointer (some ⟨p, 0, none⟩)] w fun e w' => ∃ v, e = .returned v ∧ w'.ownsRow W.heap.size 5 1 v l.length (u8s l) ∧ Kept (fun _ => False) W w' := by
  obtain ⟨v, hw, hk⟩ := h
  refine (wbytes_any W.heap.size p v l w hw hl).mono ?_
  rintro e w' ⟨v', rfl, ho, hk'⟩
  refine ⟨v', rfl, ?_, hk.trans hk'⟩
  refine ⟨ho.1, ?_⟩
  rcases ho.2 with h0 | ⟨g, cap, cur, e, hg, rest⟩
  · exact .inl h0
  · exact .inr ⟨g, cap, cur, e, Nat.le_trans hk.size hg, rest⟩

/-- A reader that was made behind the world W: its bytes, how many are taken, the error. -/
def RK (W w : World) (p : Nat) (l : List Int) (t : Nat) (e : Int) : Prop := ∃ v, RdAt 113 5 w W.heap.size p v l t e ∧ Kept (fun _ => False) W w
theorem RK.kept {W w w' : World} {p : Nat} {l : List Int} {t : Nat} {e : Int} (h : RK W w p l t e) (k : Kept (fun _ => False) w w') : RK W w' p l t e := by
  obtain ⟨v, hw, hk⟩ := h
  exact ⟨v, hw.kept k (fun x => x) (fun _ _ x => x), hk.trans k⟩
theorem RK.old {W w : World} {p : Nat} {l : List Int} {t : Nat} {e : Int} (h : RK W w p l t e) : Kept (fun _ => False) W w := h.elim fun _ h => h.2
theorem RK.lt {W w : World} {p : Nat} {l : List Int} {t : Nat} {e : Int} (h : RK W w p l t e) : p < w.heap.size := h.elim fun _ h => h.1.lt
theorem RK.to {W w w' : World} {p : Nat} {v : Value} {l : List Int} {t t' : Nat} {e e' : Int} (h : RdAt 113 5 w W.heap.size p v l t e) (hk : Kept (fun _ => False) W w) (h' : RdAt 113 5 w' W.heap.size p v l t' e') (k : Kept (fun k => k = p) w w') : RK W w' p l t' e' :=
  ⟨v, h', hk.step k (fun j hj hS => by have := h.base; omega)⟩
theorem rkNew_any (v : Value) (ao : Option Addr) (c : Nat) (l : List Int) (w : World) (hv : SliceAt w v ao l.length c (u8s l)) (hl : l.length ≤ 100000000000) (hb : ∀ x ∈ l, 0 ≤ x ∧ x < 256) :
    Calls Try.prog 59 #[v] w fun e w' => ∃ p, e = .returned (.pointer (some ⟨p, 0, none⟩)) ∧ RK w w' p l 0 0 := by
  refine (newReader_any v ao c l w hv hl hb).mono ?_
  rintro e w' ⟨p, v', rfl, hr, hk⟩
  exact ⟨p, rfl, v', hr, hk⟩
theorem rkCount_any {W w : World} {p : Nat} {l : List Int} {t : Nat} {e : Int} (most : Int) (h : RK W w p l t e) (hl : l.length ≤ 100000000000) (hm0 : 0 ≤ most) (hm1 : most ≤ 9223372036854775807) :
    Calls Try.prog 68 #[.pointer (some ⟨p, 0, none⟩), .int .i64 most] w fun e' w' => e' = .returned (.int .i64 (countF l t e most).1) ∧ RK W w' p l (t + (countF l t e most).2.1) (countF l t e most).2.2 ∧ Kept (fun k => k = p) w w' := by
  obtain ⟨v, hr, hk⟩ := h
  refine (rcount_all W.heap.size p v l t e most w hr hl (by omega) hm1).mono ?_
  rintro e' w' ⟨rfl, h', k⟩
  exact ⟨rfl, RK.to hr hk h' k, k⟩
theorem rkText_any {W w : World} {p : Nat} {l : List Int} {t : Nat} {e : Int} (most : Int) (h : RK W w p l t e) (hl : l.length ≤ 100000000000) (hm0 : 0 ≤ most) (hm1 : most ≤ 9223372036854775807) :
    Calls Try.prog 66 #[.pointer (some ⟨p, 0, none⟩), .int .i64 most] w fun e' w' => e' = .returned (.string (strOfNums (textF l t e most).1)) ∧ RK W w' p l (t + (textF l t e most).2.1) (textF l t e most).2.2 ∧ Kept (fun k => k = p) w w' := by
  obtain ⟨v, hr, hk⟩ := h
  refine (rtext_all W.heap.size p v l t e most w hr hl (by omega) hm1).mono ?_
  rintro e' w' ⟨rfl, h', k⟩
  exact ⟨rfl, RK.to hr hk h' k, k⟩
theorem rkErr_any {W w : World} {p : Nat} {l : List Int} {t : Nat} {e : Int} (h : RK W w p l t e) :
    Calls Try.prog 69 #[.pointer (some ⟨p, 0, none⟩)] w fun e' w' => e' = .returned (.int .i64 e) ∧ w = w' := by
  obtain ⟨v, hr, hk⟩ := h
  exact err_any W.heap.size p v l t e w hr
/-- What Done answers. -/
def doneF (l : List Int) (t : Nat) (e : Int) : Int := if e ≠ 0 then e else if t = l.length then 0 else 3
theorem rkDone_any {W w : World} {p : Nat} {l : List Int} {t : Nat} {e : Int} (h : RK W w p l t e) (hl : l.length ≤ 100000000000) :
    Calls Try.prog 72 #[.pointer (some ⟨p, 0, none⟩)] w fun e' w' => e' = .returned (.int .i64 (doneF l t e)) ∧ Kept (fun _ => False) w w' := by
  obtain ⟨v, hr, hk⟩ := h
  unfold doneF
  by_cases he : e = 0
  · subst he
    rw [if_neg (by omega)]
    refine (done_ok W.heap.size p v l t w hr hl).mono ?_
    rintro e' w' ⟨rfl, q, rfl⟩
    exact ⟨rfl, (Kept.refl _ _).drewN q⟩
  · rw [if_pos he]
    refine (done_err W.heap.size p v l t e w hr (by simp [he])).mono ?_
    rintro e' w' ⟨rfl, q, rfl⟩
    exact ⟨rfl, (Kept.refl _ _).drewN q⟩
end Go.Proofs.Ytkidbbmdlmnokaa
