/- What a bucket holds of a side down by one, plainly. -/
import Derived.Test.YtbjpcddnjndjlaaHA
import Derived.Test.YtbjpcddnjndjlaaH4
namespace Go.Proofs.Ytbjpcddnjndjlaa

def atP (o : Int) (l : List Nat) (m : Nat) (i : Int) : Nat := if o ≤ i ∧ i < o + (m : Int) then l.getD (i - o).toNat 0 else 0
theorem dSum_atP (o : Int) (l : List Nat) (m j : Nat) : dSum o l 1 m j = atP o l m (2 * (o / 2 + (j : Int))) + atP o l m (2 * (o / 2 + (j : Int)) + 1) := by
  induction m with
  | zero => simp only [dSum, atP]; rw [if_neg (by omega), if_neg (by omega)]
  | succ m ih =>
    simp only [dSum]
    rw [ih]
    have hi := dIdx_eq o 1 m
    have e2 : (2 : Int) ^ 1 = 2 := rfl
    rw [e2] at hi
    unfold atP
    by_cases h : dIdx o 1 m = j
    · rw [if_pos h]
      rcases Int.emod_two_eq (o + (m : Int)) with hm | hm
      · have a : 2 * (o / 2 + (j : Int)) = o + (m : Int) := by omega
        rw [a, if_neg (by omega), if_neg (by omega), if_pos (by omega), if_neg (by omega), show (o + (m : Int) - o).toNat = m by omega]
        omega
      · have a : 2 * (o / 2 + (j : Int)) + 1 = o + (m : Int) := by omega
        rw [a]
        have hc : (o ≤ 2 * (o / 2 + (j : Int)) ∧ 2 * (o / 2 + (j : Int)) < o + (m : Int)) ↔ (o ≤ 2 * (o / 2 + (j : Int)) ∧ 2 * (o / 2 + (j : Int)) < o + ((m + 1 : Nat) : Int)) := by omega
        simp only [hc]
        rw [if_neg (c := o ≤ o + (m : Int) ∧ o + (m : Int) < o + (m : Int)) (by omega), if_pos (c := o ≤ o + (m : Int) ∧ o + (m : Int) < o + ((m + 1 : Nat) : Int)) (by omega), show (o + (m : Int) - o).toNat = m by omega]
        omega
    · rw [if_neg h]
      have hc : ∀ e : Int, e = 0 ∨ e = 1 → ((o ≤ 2 * (o / 2 + (j : Int)) + e ∧ 2 * (o / 2 + (j : Int)) + e < o + (m : Int)) ↔ (o ≤ 2 * (o / 2 + (j : Int)) + e ∧ 2 * (o / 2 + (j : Int)) + e < o + ((m + 1 : Nat) : Int))) := by
        intro e he
        omega
      have c0 := hc 0 (.inl rfl)
      have c1 := hc 1 (.inr rfl)
      rw [Int.add_zero] at c0
      simp only [c0, c1]
      omega
theorem atN_down (o k : Int) (l : List Nat) : atN (downO o l 1) (downL o l 1) k = atN o l (2 * k) + atN o l (2 * k + 1) := by
  have e2 : (2 : Int) ^ 1 = 2 := rfl
  by_cases h0 : l.length = 0
  · unfold atN
    rw [downL_length, h0, if_neg, if_neg (by omega), if_neg (by omega)]
    unfold dWidth; rw [if_pos rfl]; omega
  · have ho : downO o l 1 = o / 2 := by unfold downO; rw [if_neg h0, e2]
    have hw : dWidth o l.length 1 = dIdx o 1 (l.length - 1) + 1 := by unfold dWidth; rw [if_neg h0]
    have hi := dIdx_eq o 1 (l.length - 1)
    rw [e2] at hi
    rw [ho]
    unfold atN
    rw [downL_length]
    by_cases hk : o / 2 ≤ k ∧ k < o / 2 + ((dWidth o l.length 1 : Nat) : Int)
    · rw [if_pos hk, downL_get _ _ _ _ (by omega), dSum_atP]
      have e : o / 2 + (((k - o / 2).toNat : Nat) : Int) = k := by omega
      rw [e]; rfl
    · rw [if_neg hk, if_neg (by omega), if_neg (by omega)]
/-- The number that an index halved is, to below. -/
theorem half_eq (i : Int) : i / 2 ^ 1 = i / 2 := rfl
end Go.Proofs.Ytbjpcddnjndjlaa
