/- A side more coarsely, plainly: twice, its total, its ends, what its buckets hold. -/
import Derived.Test.YtbjpcddnjndjlaaH6
namespace Go.Proofs.Ytbjpcddnjndjlaa

/-- A sum over those places that are taken. -/
def wS (p : Nat → Bool) (g : Nat → Nat) : Nat → Nat
  | 0 => 0
  | n + 1 => wS p g n + if p n = true then g n else 0
theorem wS_congr (p q : Nat → Bool) (g h : Nat → Nat) (n : Nat) (e : ∀ i, i < n → p i = q i ∧ g i = h i) : wS p g n = wS q h n := by
  induction n with
  | zero => rfl
  | succ n ih => simp only [wS]; rw [ih (fun i hi => e i (by omega)), (e n (by omega)).1, (e n (by omega)).2]
theorem wS_zero (p : Nat → Bool) (n : Nat) : wS p (fun _ => 0) n = 0 := by
  induction n with
  | zero => rfl
  | succ n ih => simp [wS, ih]
theorem wS_far (p : Nat → Bool) (g : Nat → Nat) (j x n : Nat) (h : n ≤ j) : wS p (fun i => g i + if j = i then x else 0) n = wS p g n :=
  wS_congr _ _ _ _ _ fun i hi => ⟨rfl, by rw [if_neg (by omega)]; rfl⟩
theorem wS_add (p : Nat → Bool) (g : Nat → Nat) (j x n : Nat) (h : j < n) : wS p (fun i => g i + if j = i then x else 0) n = wS p g n + if p j = true then x else 0 := by
  induction n with
  | zero => omega
  | succ n ih =>
    simp only [wS]
    by_cases e : j = n
    · subst e
      rw [wS_far p g j x j (Nat.le_refl _), if_pos rfl]
      split <;> omega
    · rw [ih (by omega), if_neg e]
      simp only [Nat.add_zero]
      omega
theorem dSum_wS (o : Int) (l : List Nat) (b m j : Nat) : dSum o l b m j = wS (fun i => dIdx o b i == j) (fun i => l.getD i 0) m := by
  induction m with
  | zero => rfl
  | succ m ih => simp only [dSum, wS, ih, beq_iff_eq]
theorem wS_down (p : Nat → Bool) (o : Int) (l : List Nat) (b m W : Nat) (h : ∀ i, i < m → dIdx o b i < W) : wS p (dSum o l b m) W = wS (fun i => p (dIdx o b i)) (fun i => l.getD i 0) m := by
  induction m with
  | zero => exact wS_zero p W
  | succ m ih =>
    have := wS_add p (dSum o l b m) (dIdx o b m) (l.getD m 0) W (h m (by omega))
    simp only [wS]
    rw [← ih (fun i hi => h i (by omega)), ← this]
    exact wS_congr _ _ _ _ _ fun i _ => ⟨rfl, rfl⟩
theorem downL_get (o : Int) (l : List Nat) (b j : Nat) (h : j < dWidth o l.length b) : (downL o l b).getD j 0 = dSum o l b l.length j := dAcc_get o l b l.length j h
theorem sum_wS (l : List Nat) : l.sum = wS (fun _ => true) (fun i => l.getD i 0) l.length := by
  suffices ∀ m, m ≤ l.length → (l.take m).sum = wS (fun _ => true) (fun i => l.getD i 0) m by
    have := this l.length (Nat.le_refl _)
    rwa [List.take_length] at this
  intro m
  induction m with
  | zero => intro _; simp [wS]
  | succ m ih =>
    intro hm
    have h1 := sumN_take 0 l m (by omega)
    unfold sumN at h1
    have := ih (by omega)
    simp only [wS, if_true]
    omega
theorem downL_sum (o : Int) (l : List Nat) (b : Nat) : (downL o l b).sum = l.sum := by
  rw [sum_wS, sum_wS l, ← wS_down (fun _ => true) o l b l.length (dWidth o l.length b) (fun i hi => dIdx_lt o _ b i hi), downL_length]
  exact wS_congr _ _ _ _ _ fun i hi => ⟨rfl, downL_get o l b i hi⟩

theorem ediv_two (x : Int) (a b : Nat) : x / 2 ^ a / 2 ^ b = x / 2 ^ (a + b) := by
  rw [Int.ediv_ediv, Int.pow_add, if_neg (by have := pow2_pos a; omega)]
  omega
theorem dIdx_two (o : Int) (a b i : Nat) : dIdx (o / 2 ^ a) b (dIdx o a i) = dIdx o (a + b) i := by
  have h1 := dIdx_eq (o / 2 ^ a) b (dIdx o a i)
  have h2 := dIdx_eq o (a + b) i
  have h3 := dIdx_eq o a i
  have e : o / 2 ^ a + ((dIdx o a i : Nat) : Int) = (o + (i : Int)) / 2 ^ a := by omega
  rw [e, ediv_two, ediv_two] at h1
  omega
theorem dWidth_two (o : Int) (n a b : Nat) : dWidth (o / 2 ^ a) (dWidth o n a) b = dWidth o n (a + b) := by
  by_cases h : n = 0
  · subst h; rfl
  · unfold dWidth
    rw [if_neg h, if_neg h, if_neg (by omega)]
    simp only [Nat.add_sub_cancel]
    rw [dIdx_two]
theorem downL_nil (o : Int) (b : Nat) : downL o [] b = [] := rfl
theorem list_ext0 {l m : List Nat} (hl : l.length = m.length) (h : ∀ j, j < l.length → l.getD j 0 = m.getD j 0) : l = m := by
  apply List.ext_getElem hl
  intro j h1 h2
  have := h j h1
  rwa [List.getD_eq_getElem?_getD, List.getD_eq_getElem?_getD, List.getElem?_eq_getElem h1, List.getElem?_eq_getElem h2] at this
theorem downL_two (o : Int) (l : List Nat) (a b : Nat) : downL (o / 2 ^ a) (downL o l a) b = downL o l (a + b) := by
  apply list_ext0
  · rw [downL_length, downL_length, downL_length, dWidth_two]
  · intro j hj
    rw [downL_length, downL_length] at hj
    rw [downL_get _ _ _ _ (by rwa [downL_length]), downL_get _ _ _ _ (by rwa [← dWidth_two]), dSum_wS, dSum_wS, downL_length]
    have := wS_down (fun i => dIdx (o / 2 ^ a) b i == j) o l a l.length (dWidth o l.length a) (fun i hi => dIdx_lt o _ a i hi)
    rw [wS_congr _ _ (fun i => (downL o l a).getD i 0) (dSum o l a l.length) _ (fun i hi => ⟨rfl, downL_get o l a i hi⟩), this]
    exact wS_congr _ _ _ _ _ fun i _ => ⟨by simp only [dIdx_two], rfl⟩
theorem downO_two (o : Int) (l : List Nat) (a b : Nat) : downO (downO o l a) (downL o l a) b = downO o l (a + b) := by
  unfold downO
  rw [downL_length]
  by_cases h : l.length = 0
  · rw [if_pos h, if_pos h, if_pos (by unfold dWidth; rw [if_pos h])]
  · rw [if_neg h, if_neg h, if_neg (by unfold dWidth; rw [if_neg h]; omega), ediv_two]
theorem downL_two' (o : Int) (l : List Nat) (a b : Nat) : downL (downO o l a) (downL o l a) b = downL o l (a + b) := by
  by_cases h : l.length = 0
  · have : l = [] := List.eq_nil_of_length_eq_zero h
    subst this; rfl
  · have e : downO o l a = o / 2 ^ a := by unfold downO; rw [if_neg h]
    rw [e, downL_two]

theorem dIdx_by0 (o : Int) (i : Nat) : dIdx o 0 i = i := by
  have := dIdx_eq o 0 i
  simp at this; omega
theorem downL_by0 (o : Int) (l : List Nat) : downL o l 0 = l := by
  have hw : dWidth o l.length 0 = l.length := by
    unfold dWidth
    split
    · omega
    · rw [dIdx_by0]; omega
  apply list_ext0
  · rw [downL_length, hw]
  · intro j hj
    rw [downL_length] at hj
    rw [downL_get _ _ _ _ hj]
    rw [hw] at hj
    suffices ∀ m, dSum o l 0 m j = if j < m then l.getD j 0 else 0 by rw [this, if_pos hj]
    intro m
    induction m with
    | zero => rfl
    | succ m ih =>
      simp only [dSum, ih, dIdx_by0]
      by_cases e : m = j
      · subst e; rw [if_neg (by omega), if_pos rfl, if_pos (by omega)]; omega
      · rw [if_neg e]
        by_cases e2 : j < m
        · rw [if_pos e2, if_pos (by omega)]; rfl
        · rw [if_neg e2, if_neg (by omega)]
theorem downO_by0 (o : Int) (l : List Nat) (h : l.length = 0 → o = 0) : downO o l 0 = o := by
  unfold downO
  split
  · rename_i e; exact (h e).symm
  · simp

theorem dSum_ge (o : Int) (l : List Nat) (b m i : Nat) (h : i < m) : l.getD i 0 ≤ dSum o l b m (dIdx o b i) := by
  induction m with
  | zero => omega
  | succ m ih =>
    simp only [dSum]
    by_cases e : i = m
    · subst e; rw [if_pos rfl]; omega
    · have := ih (by omega); omega
theorem ediv_in (x : Int) (b : Nat) (K : Int) (h0 : 0 ≤ K) (h1 : -K ≤ x) (h2 : x ≤ K) : -K ≤ x / 2 ^ b ∧ x / 2 ^ b ≤ K := by
  have hp := pow2_pos b
  constructor
  · apply (Int.le_ediv_iff_mul_le hp).2
    have : K * 1 ≤ K * 2 ^ b := Int.mul_le_mul_of_nonneg_left (by omega) h0
    rw [Int.neg_mul]
    omega
  · have : x / 2 ^ b ≤ K / 2 ^ b := Int.ediv_le_ediv hp h2
    have h3 : K / 2 ^ b ≤ K := Int.ediv_le_self _ h0
    omega
theorem sideE_down (o : Int) (l : List Nat) (b : Nat) (h : sideE o l = 0) : sideE (downO o l b) (downL o l b) = 0 := by
  unfold sideE at h ⊢
  rw [downL_length]
  by_cases h0 : l.length = 0
  · have hw : dWidth o l.length b = 0 := by unfold dWidth; rw [if_pos h0]
    rw [hw, if_neg (by omega), if_pos rfl, if_pos (by unfold downO; rw [if_pos h0])]
  · split at h
    · omega
    · split at h
      · omega
      · split at h
        · omega
        · rename_i h1 h2 h3
          have hw : dWidth o l.length b = dIdx o b (l.length - 1) + 1 := by unfold dWidth; rw [if_neg h0]
          have hle := dWidth_le o l.length b
          have ho : downO o l b = o / 2 ^ b := by unfold downO; rw [if_neg h0]
          have g0 := dSum_ge o l b l.length 0 (by omega)
          have g1 := dSum_ge o l b l.length (l.length - 1) (by omega)
          rw [dIdx_zero] at g0
          have hi := dIdx_eq o b (l.length - 1)
          have b1 := ediv_in o b 1073741824 (by omega) (by omega) (by omega)
          have b2 := ediv_in (o + ((l.length - 1 : Nat) : Int)) b 1073741824 (by omega) (by omega) (by omega)
          have e1 := downL_get o l b 0 (by omega)
          have e2 := downL_get o l b (dIdx o b (l.length - 1)) (by omega)
          rw [if_neg (by omega), if_neg (by omega)]
          rw [if_neg, if_neg]
          · rw [ho, hw]; omega
          · rw [hw, Nat.add_sub_cancel, e1, e2]; omega

/-- A bucket more. -/
theorem dIdx_next (o : Int) (b n : Nat) : dIdx o b (n + 1) = dIdx o b n ∨ dIdx o b (n + 1) = dIdx o b n + 1 := by
  have h1 := dIdx_eq o b n
  have h2 := dIdx_eq o b (n + 1)
  have h3 := dIdx_mono o b n (n + 1) (by omega)
  have h4 : (o + ((n + 1 : Nat) : Int)) / 2 ^ b ≤ (o + (n : Int)) / 2 ^ b + 1 := by
    have hp := pow2_pos b
    have : o + ((n + 1 : Nat) : Int) ≤ o + (n : Int) + 1 * 2 ^ b := by omega
    have h5 := Int.ediv_le_ediv hp this
    rwa [Int.add_mul_ediv_right _ _ (by omega)] at h5
  omega
theorem getD_left (l : List Nat) (x i : Nat) (h : i < l.length) : (l ++ [x]).getD i 0 = l.getD i 0 := by
  rw [List.getD_eq_getElem?_getD, List.getElem?_append_left h, ← List.getD_eq_getElem?_getD]
theorem getD_last (l : List Nat) (x : Nat) : (l ++ [x]).getD l.length 0 = x := by
  rw [List.getD_eq_getElem?_getD, List.getElem?_append_right (Nat.le_refl _)]; simp
theorem dSum_app (o : Int) (l : List Nat) (x b j : Nat) : dSum o (l ++ [x]) b (l.length + 1) j = dSum o l b l.length j + if dIdx o b l.length = j then x else 0 := by
  have : dSum o (l ++ [x]) b l.length j = dSum o l b l.length j := by
    rw [dSum_wS, dSum_wS]
    exact wS_congr _ _ _ _ _ fun i hi => ⟨rfl, getD_left l x i hi⟩
  simp only [dSum]
  rw [this, getD_last]
theorem dSum_none (o : Int) (l : List Nat) (b m j : Nat) (h : ∀ i, i < m → dIdx o b i < j) : dSum o l b m j = 0 := by
  induction m with
  | zero => rfl
  | succ m ih =>
    have := h m (by omega)
    simp only [dSum]
    rw [ih (fun i hi => h i (by omega)), if_neg (by omega)]
theorem downL_same (o : Int) (l : List Nat) (x b : Nat) (h0 : l.length ≠ 0) (h : dIdx o b l.length = dIdx o b (l.length - 1)) :
    downL o (l ++ [x]) b = (downL o l b).take (dWidth o l.length b - 1) ++ [(downL o l b).getD (dWidth o l.length b - 1) 0 + x] := by
  have hw : dWidth o l.length b = dIdx o b (l.length - 1) + 1 := by unfold dWidth; rw [if_neg h0]
  have hw2 : dWidth o (l ++ [x]).length b = dWidth o l.length b := by
    rw [hw]; unfold dWidth; rw [List.length_append, List.length_singleton, if_neg (by omega), Nat.add_sub_cancel, h]
  apply list_ext0
  · rw [downL_length, hw2, List.length_append, List.length_take, downL_length, List.length_singleton]; omega
  · intro j hj
    rw [downL_length] at hj
    rw [downL_get _ _ _ _ hj, List.length_append, List.length_singleton, dSum_app]
    rw [hw2] at hj
    by_cases e : j = dWidth o l.length b - 1
    · subst e
      rw [if_pos (by omega), List.getD_eq_getElem?_getD, List.getElem?_append_right (by rw [List.length_take, downL_length]; omega), List.length_take, downL_length]
      rw [show dWidth o l.length b - 1 - min (dWidth o l.length b - 1) (dWidth o l.length b) = 0 by omega]
      rw [downL_get _ _ _ _ (by omega)]
      rfl
    · rw [if_neg (by omega), List.getD_eq_getElem?_getD, List.getElem?_append_left (by rw [List.length_take, downL_length]; omega), List.getElem?_take_of_lt (by omega), ← List.getD_eq_getElem?_getD, downL_get _ _ _ _ (by omega)]
      omega
theorem downL_new (o : Int) (l : List Nat) (x b : Nat) (h0 : l.length ≠ 0) (h : dIdx o b l.length = dIdx o b (l.length - 1) + 1) :
    downL o (l ++ [x]) b = downL o l b ++ [x] := by
  have hw : dWidth o l.length b = dIdx o b (l.length - 1) + 1 := by unfold dWidth; rw [if_neg h0]
  have hw2 : dWidth o (l ++ [x]).length b = dWidth o l.length b + 1 := by
    rw [hw]; unfold dWidth; rw [List.length_append, List.length_singleton, if_neg (by omega), Nat.add_sub_cancel, h]
  apply list_ext0
  · rw [downL_length, hw2, List.length_append, downL_length, List.length_singleton]
  · intro j hj
    rw [downL_length] at hj
    rw [downL_get _ _ _ _ hj, List.length_append, List.length_singleton, dSum_app]
    rw [hw2] at hj
    by_cases e : j = dWidth o l.length b
    · rw [if_pos (by omega), dSum_none o l b l.length j (fun i hi => by have := dIdx_lt o l.length b i hi; omega)]
      have := getD_last (downL o l b) x
      rw [downL_length, ← e] at this
      rw [this]; omega
    · rw [if_neg (by omega), getD_left _ _ _ (by rw [downL_length]; omega), downL_get _ _ _ _ (by omega)]
      omega
theorem downL_one (o : Int) (x b : Nat) : downL o [x] b = [x] := by
  have hw : dWidth o [x].length b = 1 := by
    have := dIdx_zero o b
    unfold dWidth; simp [this]
  apply list_ext0
  · rw [downL_length, hw]; rfl
  · intro j hj
    rw [downL_length, hw] at hj
    obtain rfl : j = 0 := by omega
    rw [downL_get _ _ _ _ (by omega)]
    simp [dSum, dIdx_zero]
end Go.Proofs.Ytbjpcddnjndjlaa
