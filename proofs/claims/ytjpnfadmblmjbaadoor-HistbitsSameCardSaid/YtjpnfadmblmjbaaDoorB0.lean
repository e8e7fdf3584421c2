/- Plain facts on bits: a number's bits as a list, a list of bits as a number, and as bytes. -/
namespace Go.Proofs.YtjpnfadmblmjbaaDoor

/-- The number below 2^n whose bit i is f i. -/
def natOf (f : Nat → Bool) : Nat → Nat
  | 0 => 0
  | n + 1 => natOf f n + (f n).toNat * 2 ^ n
theorem natOf_lt (f : Nat → Bool) (n : Nat) : natOf f n < 2 ^ n := by
  induction n with
  | zero => simp [natOf]
  | succ n ih => unfold natOf; have : (f n).toNat ≤ 1 := Bool.toNat_le _; have h2 : (f n).toNat * 2 ^ n ≤ 1 * 2 ^ n := Nat.mul_le_mul_right _ this; omega
theorem natOf_testBit (f : Nat → Bool) (n i : Nat) : (natOf f n).testBit i = (decide (i < n) && f i) := by
  induction n with
  | zero => simp [natOf]
  | succ n ih =>
    have hlt := natOf_lt f n
    unfold natOf
    rw [Nat.add_comm, Nat.mul_comm]
    rcases Nat.lt_trichotomy i n with h | h | h
    · rw [Nat.testBit_two_pow_mul_add _ hlt, if_pos h, ih]
      simp [h, Nat.lt_succ_of_lt h]
    · subst h
      rw [Nat.testBit_two_pow_mul_add _ hlt, if_neg (Nat.lt_irrefl _)]
      cases f i <;> simp
    · rw [Nat.testBit_two_pow_mul_add _ hlt, if_neg (by omega)]
      have h1 : i - n ≠ 0 := by omega
      have h2 : ¬ i < n + 1 := by omega
      simp only [h2, decide_false, Bool.false_and]
      cases f n
      · simp
      · simp only [Bool.toNat_true]
        exact Nat.testBit_lt_two_pow (Nat.one_lt_two_pow h1)
theorem natOf_congr {f g : Nat → Bool} {n : Nat} (h : ∀ i, i < n → f i = g i) : natOf f n = natOf g n := by
  induction n with
  | zero => rfl
  | succ n ih => unfold natOf; rw [ih (fun i hi => h i (by omega)), h n (by omega)]
theorem natOf_self (v n : Nat) (h : v < 2 ^ n) : natOf v.testBit n = v := by
  apply Nat.eq_of_testBit_eq
  intro i
  rw [natOf_testBit]
  by_cases hi : i < n
  · simp [hi]
  · rw [Nat.testBit_lt_two_pow (Nat.lt_of_lt_of_le h (Nat.pow_le_pow_right (by omega) (by omega)))]
    simp [hi]

/-- The n lowest bits of a number, the highest first. -/
def bitsN (v n : Nat) : List Bool := (List.range n).map fun i => v.testBit (n - 1 - i)
@[simp] theorem bitsN_length (v n : Nat) : (bitsN v n).length = n := by simp [bitsN]
theorem bitsN_get (v n i : Nat) : (bitsN v n)[i]? = if i < n then some (v.testBit (n - 1 - i)) else none := by
  unfold bitsN
  by_cases h : i < n
  · simp [h]
  · simp [h]
theorem bitsN_getD (v n i : Nat) : (bitsN v n).getD i false = (decide (i < n) && v.testBit (n - 1 - i)) := by
  rw [List.getD_eq_getElem?_getD, bitsN_get]
  by_cases h : i < n <;> simp [h]
theorem bitsN_add (v a b : Nat) : bitsN v (a + b) = bitsN (v / 2 ^ b) a ++ bitsN v b := by
  apply List.ext_getElem?
  intro i
  rw [List.getElem?_append, bitsN_get, bitsN_get, bitsN_get, bitsN_length]
  by_cases h : i < a
  · rw [if_pos h, if_pos (by omega), if_pos h, Nat.testBit_div_two_pow]
    congr 2; omega
  · rw [if_neg h]
    by_cases h2 : i < a + b
    · rw [if_pos h2, if_pos (by omega)]
      congr 2; omega
    · rw [if_neg h2, if_neg (by omega)]
theorem bitsN_mod (v n : Nat) : bitsN (v % 2 ^ n) n = bitsN v n := by
  apply List.ext_getElem?
  intro i
  rw [bitsN_get, bitsN_get]
  by_cases h : i < n
  · rw [if_pos h, if_pos h, Nat.testBit_mod_two_pow]
    simp; omega
  · rw [if_neg h, if_neg h]

/-- The number that bits tell, the highest first. -/
def numB (l : List Bool) : Nat := natOf (fun i => l.getD (l.length - 1 - i) false) l.length
theorem numB_lt (l : List Bool) : numB l < 2 ^ l.length := natOf_lt _ _
theorem numB_testBit (l : List Bool) (i : Nat) : (numB l).testBit i = (decide (i < l.length) && l.getD (l.length - 1 - i) false) := natOf_testBit _ _ _
@[simp] theorem numB_nil : numB [] = 0 := rfl
theorem numB_bitsN (v n : Nat) (h : v < 2 ^ n) : numB (bitsN v n) = v := by
  apply Nat.eq_of_testBit_eq
  intro i
  rw [numB_testBit, bitsN_length, bitsN_getD]
  by_cases hi : i < n
  · have e : n - 1 - (n - 1 - i) = i := by omega
    rw [e]; simp [hi]; omega
  · have e : v.testBit i = false := Nat.testBit_lt_two_pow (Nat.lt_of_lt_of_le h (Nat.pow_le_pow_right (by omega) (by omega)))
    rw [e]; simp [hi]
theorem bitsN_numB (l : List Bool) : bitsN (numB l) l.length = l := by
  apply List.ext_getElem?
  intro i
  rw [bitsN_get]
  by_cases h : i < l.length
  · rw [if_pos h, numB_testBit, List.getD_eq_getElem?_getD]
    have e : l.length - 1 - (l.length - 1 - i) = i := by omega
    rw [e, List.getElem?_eq_getElem h]
    simp; omega
  · rw [if_neg h, List.getElem?_eq_none (by omega)]
theorem numB_append (a b : List Bool) : numB (a ++ b) = numB a * 2 ^ b.length + numB b := by
  apply Nat.eq_of_testBit_eq
  intro i
  rw [Nat.mul_comm, Nat.testBit_two_pow_mul_add _ (numB_lt b), numB_testBit, numB_testBit, numB_testBit]
  simp only [List.length_append, List.getD_eq_getElem?_getD, List.getElem?_append]
  by_cases h : i < b.length
  · rw [if_pos h, if_neg (by omega)]
    have e : a.length + b.length - 1 - i - a.length = b.length - 1 - i := by omega
    rw [e]
    simp [h, show i < a.length + b.length by omega]
  · rw [if_neg h]
    by_cases h2 : i < a.length + b.length
    · rw [if_pos (by omega)]
      have e : a.length + b.length - 1 - i = a.length - 1 - (i - b.length) := by omega
      rw [e]
      simp [h2, show i - b.length < a.length by omega]
    · simp [h2, show ¬ i - b.length < a.length by omega]
theorem numB_snoc (a : List Bool) (b : Bool) : numB (a ++ [b]) = 2 * numB a + b.toNat := by
  rw [numB_append]
  have : numB [b] = b.toNat := by cases b <;> rfl
  rw [this]; simp; omega

/-- The byte j of bits, filled up by noughts. -/
def byteAt (bs : List Bool) (j : Nat) : Nat := natOf (fun i => bs.getD (8 * j + (7 - i)) false) 8
/-- Bits as bytes. -/
def packB (bs : List Bool) : List Nat := (List.range ((bs.length + 7) / 8)).map (byteAt bs)
theorem byteAt_lt (bs : List Bool) (j : Nat) : byteAt bs j < 256 := natOf_lt _ 8
theorem byteAt_testBit (bs : List Bool) (j i : Nat) : (byteAt bs j).testBit i = (decide (i < 8) && bs.getD (8 * j + (7 - i)) false) := natOf_testBit _ _ _
theorem packB_length (bs : List Bool) : (packB bs).length = (bs.length + 7) / 8 := by simp [packB]
theorem packB_get (bs : List Bool) (j : Nat) (h : j < (bs.length + 7) / 8) : (packB bs)[j]? = some (byteAt bs j) := by
  unfold packB; simp [h]
theorem packB_getD (bs : List Bool) (j : Nat) : (packB bs).getD j 0 = byteAt bs j := by
  rw [List.getD_eq_getElem?_getD]
  by_cases h : j < (bs.length + 7) / 8
  · rw [packB_get bs j h]; rfl
  · rw [List.getElem?_eq_none (by rw [packB_length]; omega)]
    show 0 = _
    symm
    apply Nat.eq_of_testBit_eq
    intro i
    rw [byteAt_testBit, List.getD_eq_getElem?_getD, List.getElem?_eq_none (by omega)]
    simp
@[simp] theorem packB_nil : packB [] = [] := rfl
theorem packB_lt (bs : List Bool) : ∀ x ∈ packB bs, x < 256 := by
  intro x hx
  simp only [packB, List.mem_map, List.mem_range] at hx
  obtain ⟨j, _, rfl⟩ := hx
  exact byteAt_lt _ _

/-- Bits that are added within the last byte. -/
theorem byteAt_append (bs add : List Bool) (r : Nat) (hr : bs.length % 8 = r) (hk : add.length ≤ 8 - r) (j : Nat) :
    byteAt (bs ++ add) j = if j = bs.length / 8 then byteAt bs j ||| numB add * 2 ^ (8 - r - add.length) else byteAt bs j := by
  apply Nat.eq_of_testBit_eq
  intro i
  by_cases hj : j = bs.length / 8
  · rw [if_pos hj, Nat.testBit_or, byteAt_testBit, byteAt_testBit, Nat.testBit_mul_two_pow, numB_testBit]
    simp only [List.getD_eq_getElem?_getD, List.getElem?_append]
    by_cases hi : i < 8
    · by_cases h1 : 8 * j + (7 - i) < bs.length
      · rw [if_pos h1]
        have h2 : ¬ i - (8 - r - add.length) < add.length ∨ i < 8 - r - add.length := by omega
        rcases h2 with h2 | h2
        · simp [hi, h2]
        · simp [hi, show ¬ (8 - r - add.length ≤ i) by omega]
      · rw [if_neg h1, List.getElem?_eq_none (l := bs) (by omega)]
        by_cases h3 : 8 * j + (7 - i) - bs.length < add.length
        · have e : 8 * j + (7 - i) - bs.length = add.length - 1 - (i - (8 - r - add.length)) := by omega
          rw [e]
          simp [hi, show 8 - r - add.length ≤ i by omega, show i - (8 - r - add.length) < add.length by omega]
        · rw [List.getElem?_eq_none (by omega)]
          simp [show ¬ (8 - r - add.length ≤ i) by omega]
    · have : ¬ i - (8 - r - add.length) < add.length := by omega
      simp [hi, this]
  · rw [if_neg hj, byteAt_testBit, byteAt_testBit]
    simp only [List.getD_eq_getElem?_getD, List.getElem?_append]
    by_cases hi : i < 8
    · by_cases h1 : 8 * j + (7 - i) < bs.length
      · rw [if_pos h1]
      · rw [if_neg h1, List.getElem?_eq_none (l := bs) (by omega), List.getElem?_eq_none (by omega)]
    · simp [hi]

/-- The next bits out of a byte: shifted and cut. -/
theorem byte_part (bs : List Bool) (t k : Nat) (hk : k ≤ 8 - t % 8) (hl : t + k ≤ bs.length) :
    byteAt bs (t / 8) / 2 ^ (8 - t % 8 - k) % 2 ^ k = numB ((bs.drop t).take k) := by
  apply Nat.eq_of_testBit_eq
  intro i
  have hlen : ((bs.drop t).take k).length = k := by rw [List.length_take, List.length_drop]; omega
  rw [Nat.testBit_mod_two_pow, Nat.testBit_div_two_pow, byteAt_testBit, numB_testBit, hlen]
  by_cases hi : i < k
  · simp only [List.getD_eq_getElem?_getD]
    rw [List.getElem?_take, if_pos (by omega), List.getElem?_drop]
    have e : 8 * (t / 8) + (7 - (i + (8 - t % 8 - k))) = t + (k - 1 - i) := by omega
    rw [e]
    simp [hi, show i + (8 - t % 8 - k) < 8 by omega]
  · simp [hi]

/-- Bits that are cut off. -/
theorem byteAt_take (bs : List Bool) (n j : Nat) :
    byteAt (bs.take n) j = if j = n / 8 then byteAt bs j / 2 ^ (8 - n % 8) * 2 ^ (8 - n % 8) else if j < n / 8 then byteAt bs j else 0 := by
  apply Nat.eq_of_testBit_eq
  intro i
  rw [byteAt_testBit]
  simp only [List.getD_eq_getElem?_getD, List.getElem?_take]
  by_cases hj : j = n / 8
  · rw [if_pos hj, Nat.testBit_mul_two_pow, Nat.testBit_div_two_pow, byteAt_testBit]
    by_cases hi : i < 8
    · by_cases h1 : 8 * j + (7 - i) < n
      · rw [if_pos h1]
        have e : i - (8 - n % 8) + (8 - n % 8) = i := by omega
        rw [e]
        simp [hi, show 8 - n % 8 ≤ i by omega]
      · rw [if_neg h1]
        simp [show ¬ (8 - n % 8 ≤ i) by omega]
    · simp [hi]; omega
  · rw [if_neg hj]
    by_cases h2 : j < n / 8
    · rw [if_pos h2, byteAt_testBit]
      by_cases hi : i < 8
      · rw [if_pos (by omega)]; simp
      · simp [hi]
    · rw [if_neg h2, if_neg (by omega)]; simp
theorem packB_eq {bs : List Bool} {l : List Nat} (hl : l.length = (bs.length + 7) / 8) (h : ∀ j, j < l.length → l[j]? = some (byteAt bs j)) : l = packB bs := by
  apply List.ext_getElem?
  intro j
  by_cases hj : j < l.length
  · rw [h j hj, packB_get _ _ (by omega)]
  · rw [List.getElem?_eq_none (by omega), List.getElem?_eq_none (by rw [packB_length]; omega)]

/-- Bytes as bits. -/
def bitsOf (l : List Nat) : List Bool := l.flatMap fun x => bitsN x 8
@[simp] theorem bitsOf_nil : bitsOf [] = [] := rfl
theorem bitsOf_cons (x : Nat) (l : List Nat) : bitsOf (x :: l) = bitsN x 8 ++ bitsOf l := rfl
theorem bitsOf_append (a b : List Nat) : bitsOf (a ++ b) = bitsOf a ++ bitsOf b := by simp [bitsOf]
@[simp] theorem bitsOf_length (l : List Nat) : (bitsOf l).length = 8 * l.length := by
  induction l with
  | nil => rfl
  | cons x l ih => rw [bitsOf_cons, List.length_append, ih]; simp; omega
theorem bitsOf_getD (l : List Nat) (j i : Nat) (hi : i < 8) : (bitsOf l).getD (8 * j + (7 - i)) false = (l.getD j 0).testBit i := by
  induction l generalizing j with
  | nil => simp
  | cons x l ih =>
    rw [bitsOf_cons]
    cases j with
    | zero =>
      simp only [List.getD_eq_getElem?_getD]
      rw [List.getElem?_append_left (by simp; omega), bitsN_get, if_pos (by omega)]
      simp
      congr 1; omega
    | succ j =>
      have := ih j
      simp only [List.getD_eq_getElem?_getD] at this ⊢
      rw [List.getElem?_append_right (by simp; omega), bitsN_length]
      have e : 8 * (j + 1) + (7 - i) - 8 = 8 * j + (7 - i) := by omega
      rw [e, this]
      simp
theorem byteAt_bitsOf (l : List Nat) (j : Nat) (h : ∀ x ∈ l, x < 256) : byteAt (bitsOf l) j = l.getD j 0 := by
  have hlt : l.getD j 0 < 2 ^ 8 := by
    rw [List.getD_eq_getElem?_getD]
    by_cases hj : j < l.length
    · rw [List.getElem?_eq_getElem hj]; exact h _ (List.getElem_mem hj)
    · rw [List.getElem?_eq_none (by omega)]; decide
  rw [← natOf_self (l.getD j 0) 8 hlt]
  unfold byteAt
  exact natOf_congr fun i hi => bitsOf_getD l j i hi
theorem packB_bitsOf (l : List Nat) (h : ∀ x ∈ l, x < 256) : packB (bitsOf l) = l := by
  symm
  apply packB_eq (by simp; omega)
  intro j hj
  rw [byteAt_bitsOf l j h, List.getD_eq_getElem?_getD, List.getElem?_eq_getElem hj]; rfl
end Go.Proofs.YtjpnfadmblmjbaaDoor
