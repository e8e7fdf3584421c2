/- Slices cut, in a seat without law 01 (the general parts of B13, B14). -/
import Derived.Test.YtjpnfadmblmjbaaDoorVB6
namespace Go.Proofs.YtjpnfadmblmjbaaDoor
open Go.RowKit
attribute [local go_sem ↓] Go.wp_at_zero Go.wp_at_succ

theorem openE_full (l : List Nat) : openE l (8 * (l.length : Int)) = 0 := by
  unfold openE
  rw [if_neg (by omega), if_neg (by omega), if_neg (by omega)]
  have e : (8 * (l.length : Int)).toNat = 8 * l.length := by omega
  rw [e, List.drop_eq_nil_of_le (by simp)]; rfl

/-- What holds while bits are taken. -/
structure TakeInv (W w : World) (rp : Nat) (rv : Value) (bs : List Bool) (t : Nat) (av : Value) : Prop where
  rd : BrAt w W.heap.size rp rv bs t
  own : w.ownsRow W.heap.size 3 1 av bs.length (ints bs)
  kept : Kept (fun _ => False) W w
theorem bitsOf_take (l : List Nat) (n : Nat) (h : n ≤ 8 * l.length) : (bitsOf l).take n = bitsOf (l.take (n / 8)) ++ bitsN (l.getD (n / 8) 0 / 2 ^ (8 - n % 8)) (n % 8) := by
  have hsp : bitsOf l = bitsOf (l.take (n / 8)) ++ bitsOf (l.drop (n / 8)) := by rw [← bitsOf_append, List.take_append_drop]
  have hl : (bitsOf (l.take (n / 8))).length = 8 * (n / 8) := by rw [bitsOf_length, List.length_take]; omega
  rw [hsp, List.take_append, List.take_of_length_le (by rw [hl]; omega), hl]
  congr 1
  have e : n - 8 * (n / 8) = n % 8 := by omega
  rw [e]
  by_cases hr : n % 8 = 0
  · rw [hr]; simp [bitsN]
  · have hq : n / 8 < l.length := by omega
    rw [List.drop_eq_getElem_cons hq, bitsOf_cons, List.getD_eq_getElem?_getD, List.getElem?_eq_getElem hq]
    simp only [Option.getD_some]
    have e2 : bitsN l[n / 8] 8 = bitsN (l[n / 8] / 2 ^ (8 - n % 8)) (n % 8) ++ bitsN l[n / 8] (8 - n % 8) := by
      rw [← bitsN_add]; congr 1; omega
    rw [e2, List.append_assoc, List.take_append, List.take_of_length_le (by simp)]
    simp
end Go.Proofs.YtjpnfadmblmjbaaDoor
