/- Layer 7: a reader and a row. -/
import Derived.Test.YtaagjedkojlbpaaDoorW17
namespace Go.Proofs.YtaagjedkojlbpaaDoor
open Go.RowKit
attribute [local go_sem ↓] Go.wp_at_zero Go.wp_at_succ

theorem openE_packedX (bs : List Bool) : openE (packB bs) bs.length = 0 := by
  unfold openE
  have hl := packB_length bs
  rw [if_neg (by omega), if_neg (by omega), if_neg (by omega), Int.toNat_natCast]
  rw [open_rest _ _ (by omega) (by omega), packB_getD]
  by_cases h : 0 < bs.length % 8
  · have e : byteAt bs (bs.length / 8) % 2 ^ (8 - bs.length % 8) = 0 := by
      apply Nat.eq_of_testBit_eq
      intro i
      rw [Nat.testBit_mod_two_pow, byteAt_testBit, Nat.zero_testBit]
      by_cases hi : i < 8 - bs.length % 8
      · rw [List.getD_eq_getElem?_getD, List.getElem?_eq_none (by omega)]; simp
      · simp [hi]
    rw [e]; simp
  · have e : decide (0 < bs.length % 8) = false := decide_eq_false h
    rw [e]; simp
theorem bitsOf_packBX (bs : List Bool) : (bitsOf (packB bs)).take bs.length = bs := by
  apply List.ext_getElem?
  intro j
  rw [List.getElem?_take]
  by_cases h : j < bs.length
  · rw [if_pos h]
    have h1 := bitsOf_getD (packB bs) (j / 8) (7 - j % 8) (by omega)
    have e : 8 * (j / 8) + (7 - (7 - j % 8)) = j := by omega
    rw [e, packB_getD, byteAt_testBit, List.getD_eq_getElem?_getD, List.getD_eq_getElem?_getD, e] at h1
    have hj : j < (bitsOf (packB bs)).length := by rw [bitsOf_length, packB_length]; omega
    rw [List.getElem?_eq_getElem hj, List.getElem?_eq_getElem h] at h1 ⊢
    simp at h1 ⊢
    rw [h1]; simp; omega
  · rw [if_neg h, List.getElem?_eq_none (by omega)]
theorem refBytesStrX (v : Value) (bs : List Bool) (w : World) (hv : SlAt w v (ints bs)) (hl : bs.length ≤ 1000000000) :
    Calls Tryd.prog 18 #[v] w fun e w' => ∃ vb, e = .returned vb ∧ (∀ w'', Kept (fun _ => False) w' w'' → (convert 33 9 vb).run Tryd.prog w'' = .ok (.string (strN (packB bs))) w'') ∧ Kept (fun _ => False) w w' := by
  refine (refBytes_any v bs w hv hl).mono ?_
  rintro e w6 ⟨vb, rfl, ho, hk⟩
  exact ⟨vb, rfl, fun w'' hk2 => run_strN ((SlAt.ofOwn ho).kept hk2 (fun _ _ x => x)) 33 5 9 Tryd.underlying33 Tryd.underlying5 Tryd.underlying9, hk⟩
theorem BrAt.downX {w : World} {B B' p : Nat} {v : Value} {bs : List Bool} {t : Nat} (h : BrAt w B p v bs t) (hB : B' ≤ B) : BrAt w B' p v bs t := by
  refine ⟨Nat.le_trans hB h.base, h.box, ⟨h.owns.1, ?_⟩, h.apart, h.taken⟩
  rcases h.owns.2 with h0 | ⟨g, cap, cur, e, hg, rest⟩
  · exact .inl h0
  · exact .inr ⟨g, cap, cur, e, Nat.le_trans hB hg, rest⟩
/-- A reader and a row of floats. -/
structure RRX (W w : World) (p r : Nat) (v : Value) (bs : List Bool) (t n last f s : Nat) : Prop where
  rd : BrAt w W.heap.size p v bs t
  row : XRow w r n last f s
  base : W.heap.size ≤ r
  kept : Kept (fun _ => False) W w
section
variable {W w w' : World} {p r t t' : Nat} {v : Value} {bs : List Bool} {n last f s n' last' f' s' V E : Nat} {e : Ending}
theorem RRX.ne (h : RRX W w p r v bs t n last f s) : r ≠ p ∧ v.ownBlock ≠ some r := h.rd.apartT h.row (by decide) (by decide)
theorem RRX.on (h : RRX W w p r v bs t n last f s) (hk : Kept (fun _ => False) w w') : RRX W w' p r v bs t n last f s := ⟨h.rd.keptF hk, h.row.kept hk (fun x => x), h.base, h.kept.trans hk⟩
theorem RRX.got (h : RRX W w p r v bs t n last f s) (g : XGot w W.heap.size p r v bs t' n' last' f' s' V E e w') : e = .returned (.tuple #[.int .u64 (V : Int), .int .i64 (E : Int)]) ∧ RRX W w' p r v bs t' n' last' f' s' := by
  obtain ⟨he, hr, hb, hk⟩ := g
  refine ⟨he, hr, hb, h.base, h.kept.newer hk ?_⟩
  rintro i (rfl | rfl)
  · exact h.rd.base
  · exact h.base
end
theorem xgetY (W w : World) (p r : Nat) (v : Value) (bs : List Bool) (t n last f s V N f' s' : Nat) (h : RRX W w p r v bs t n last f s) (HT : BruTab W) (hn : n ≤ 1000000) (hl : bs.length ≤ 100000000) (h0 : n = 0 → last = 0 ∧ f = 0 ∧ s = 0) (hok : okW f s) (hlast : last < 18446744073709551616)
    (hg : getP n last f s (bs.drop t) = (V, N, 0, f', s')) :
    Calls Tryd.prog 41 #[.pointer (some ⟨r, 0, none⟩), .pointer (some ⟨p, 0, none⟩)] w fun e w' => e = .returned (.tuple #[.int .u64 (V : Int), .int .i64 0]) ∧ RRX W w' p r v bs (t + N) (n + 1) V f' s' :=
  (xget_yes W.heap.size p r v bs t n last f s V N f' s' w h.rd h.row h.kept.size h.ne.1 (HT.kept h.kept) hl h0 hok hn hlast hg).mono fun _ _ g => h.got g
theorem xgetN (W w : World) (p r : Nat) (v : Value) (bs : List Bool) (t n last f s E : Nat) (h : RRX W w p r v bs t n last f s) (HT : BruTab W) (hl : bs.length ≤ 100000000) (h0 : n = 0 → last = 0 ∧ f = 0 ∧ s = 0) (hok : okW f s) (hE : E ≠ 0)
    (hg : (getP n last f s (bs.drop t)).2.2.1 = E) :
    Calls Tryd.prog 41 #[.pointer (some ⟨r, 0, none⟩), .pointer (some ⟨p, 0, none⟩)] w fun e w' => e = .returned (.tuple #[.int .u64 0, .int .i64 (E : Int)]) ∧ RRX W w' p r v bs t n last f s :=
  (xget_no W.heap.size p r v bs t n last f s E w h.rd h.row h.kept.size (HT.kept h.kept) hl h0 hok hE hg).mono fun _ _ g => h.got g
theorem win_zero (l : List Nat) (i : Nat) : i = 0 → lastN l i = 0 ∧ (winX l i).1 = 0 ∧ (winX l i).2 = 0 := by rintro rfl; exact ⟨rfl, rfl, rfl⟩
end Go.Proofs.YtaagjedkojlbpaaDoor
