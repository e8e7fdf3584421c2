/- A side more coarsely, plainly. -/
import Derived.Test.YtbjpcddnjndjlaaH0
namespace Go.Proofs.Ytbjpcddnjndjlaa

/-- Which bucket a bucket of a side goes to. -/
def dIdx (o : Int) (b i : Nat) : Nat := ((o + (i : Int)) / 2 ^ b - o / 2 ^ b).toNat
theorem pow2_pos (b : Nat) : (0 : Int) < 2 ^ b := Int.pow_pos (by omega)
theorem dIdx_eq (o : Int) (b i : Nat) : ((dIdx o b i : Nat) : Int) = (o + (i : Int)) / 2 ^ b - o / 2 ^ b := by
  have : o / 2 ^ b ≤ (o + (i : Int)) / 2 ^ b := Int.ediv_le_ediv (pow2_pos b) (by omega)
  unfold dIdx; omega
theorem dIdx_mono (o : Int) (b i j : Nat) (h : i ≤ j) : dIdx o b i ≤ dIdx o b j := by
  have : (o + (i : Int)) / 2 ^ b ≤ (o + (j : Int)) / 2 ^ b := Int.ediv_le_ediv (pow2_pos b) (by omega)
  have h1 := dIdx_eq o b i
  have h2 := dIdx_eq o b j
  omega
theorem dIdx_zero (o : Int) (b : Nat) : dIdx o b 0 = 0 := by
  have := dIdx_eq o b 0
  simp at this; omega
/-- How many buckets there are. -/
def dWidth (o : Int) (n b : Nat) : Nat := if n = 0 then 0 else dIdx o b (n - 1) + 1
theorem dIdx_lt (o : Int) (n b i : Nat) (h : i < n) : dIdx o b i < dWidth o n b := by
  unfold dWidth
  rw [if_neg (by omega)]
  have := dIdx_mono o b i (n - 1) (by omega)
  omega
theorem dIdx_le (o : Int) (b i : Nat) : dIdx o b i ≤ i := by
  have h := dIdx_eq o b i
  have h1 : (o + (i : Int)) / 2 ^ b ≤ o / 2 ^ b + (i : Int) := by
    have hp := pow2_pos b
    have h2 : o + (i : Int) ≤ o + (i : Int) * 2 ^ b := by
      have : (i : Int) * 1 ≤ (i : Int) * 2 ^ b := Int.mul_le_mul_of_nonneg_left (by omega) (by omega)
      omega
    have h3 := Int.ediv_le_ediv hp h2
    rwa [Int.add_mul_ediv_right _ _ (by omega)] at h3
  omega
theorem dWidth_le (o : Int) (n b : Nat) : dWidth o n b ≤ n := by
  unfold dWidth
  split
  · omega
  · have := dIdx_le o b (n - 1); omega
/-- What comes into a bucket of the first m. -/
def dSum (o : Int) (l : List Nat) (b : Nat) : Nat → Nat → Nat
  | 0, _ => 0
  | m + 1, j => dSum o l b m j + if dIdx o b m = j then l.getD m 0 else 0
theorem dSum_le (o : Int) (l : List Nat) (b m j : Nat) (h : m ≤ l.length) : dSum o l b m j ≤ (l.take m).sum := by
  induction m with
  | zero => simp [dSum]
  | succ m ih =>
    have h1 := sumN_take 0 l m (by omega)
    unfold sumN at h1
    have := ih (by omega)
    simp only [dSum]
    split <;> omega
theorem dSum_le_sum (o : Int) (l : List Nat) (b m j : Nat) (h : m ≤ l.length) : dSum o l b m j ≤ l.sum := by
  have h1 := dSum_le o l b m j h
  have h2 := sumN_le 0 l m
  unfold sumN at h2
  omega
/-- The buckets that come of the first m. -/
def dAcc (o : Int) (l : List Nat) (b m : Nat) : List Nat := (List.range (dWidth o l.length b)).map (dSum o l b m)
@[simp] theorem dAcc_length (o : Int) (l : List Nat) (b m : Nat) : (dAcc o l b m).length = dWidth o l.length b := by simp [dAcc]
theorem dAcc_get (o : Int) (l : List Nat) (b m j : Nat) (h : j < dWidth o l.length b) : (dAcc o l b m).getD j 0 = dSum o l b m j := by
  simp [dAcc, List.getD_eq_getElem?_getD, h]
theorem dAcc_zero (o : Int) (l : List Nat) (b : Nat) : dAcc o l b 0 = List.replicate (dWidth o l.length b) 0 := by
  apply List.ext_getElem?
  intro j
  simp only [dAcc, List.getElem?_map, List.getElem?_replicate]
  by_cases h : j < dWidth o l.length b
  · rw [List.getElem?_range h, if_pos h]; rfl
  · rw [if_neg h, List.getElem?_eq_none (by simp; omega)]; rfl
theorem dAcc_succ (o : Int) (l : List Nat) (b m : Nat) : dAcc o l b (m + 1) = (dAcc o l b m).set (dIdx o b m) (dSum o l b m (dIdx o b m) + l.getD m 0) := by
  apply List.ext_getElem?
  intro j
  rw [List.getElem?_set]
  simp only [dAcc, List.getElem?_map, List.length_map, List.length_range]
  by_cases h : j < dWidth o l.length b
  · rw [List.getElem?_range h]
    by_cases e : dIdx o b m = j
    · rw [if_pos e, if_pos (by omega)]; subst e; simp [dSum]
    · rw [if_neg e]; simp [dSum, e]
  · rw [List.getElem?_eq_none (by simp; omega)]
    by_cases e : dIdx o b m = j
    · rw [if_pos e, if_neg (by omega)]; rfl
    · rw [if_neg e]; rfl
/-- A side, more coarsely. -/
def downL (o : Int) (l : List Nat) (b : Nat) : List Nat := dAcc o l b l.length
def downO (o : Int) (l : List Nat) (b : Nat) : Int := if l.length = 0 then 0 else o / 2 ^ b
@[simp] theorem downL_length (o : Int) (l : List Nat) (b : Nat) : (downL o l b).length = dWidth o l.length b := by simp [downL]
end Go.Proofs.Ytbjpcddnjndjlaa
