/- The document's Less is the floats', plainly. -/
import Derived.Test.YthdlfjpdifipkaaN10
namespace Go.Proofs.Ythdlfjpdifipkaa

/-- The document's Less. -/
def refLessN (a b : Nat) : Bool :=
  if oddI a = true ∨ oddI b = true then false else
  if a % 9223372036854775808 = 0 ∧ b % 9223372036854775808 = 0 then false else
  if 9223372036854775808 ≤ a ∧ 9223372036854775808 ≤ b then decide (b % 9223372036854775808 < a % 9223372036854775808) else
  if a < 9223372036854775808 ∧ b < 9223372036854775808 then decide (a % 9223372036854775808 < b % 9223372036854775808) else decide (9223372036854775808 ≤ a)
/-- A finite float's size, in the least unit, twice. -/
def sizeF (a : Nat) : Nat := wM a * 2 ^ wE a
theorem size_lt (a b : Nat) (_hfa : a / 4503599627370496 % 2048 ≠ 2047) (h : a % 9223372036854775808 < b % 9223372036854775808) : sizeF a < sizeF b := by
  have hb := wM_lt a
  have hab : wE a < wE b ∧ 4503599627370496 ≤ wM b ∨ wE a = wE b ∧ wM a < wM b := by
    unfold wM wE
    by_cases h1 : a / 4503599627370496 % 2048 = 0
    · by_cases h2 : b / 4503599627370496 % 2048 = 0
      · rw [if_pos h1, if_pos h2, if_pos h1, if_pos h2]; omega
      · rw [if_pos h1, if_neg h2, if_pos h1, if_neg h2]; omega
    · by_cases h2 : b / 4503599627370496 % 2048 = 0
      · omega
      · rw [if_neg h1, if_neg h2, if_neg h1, if_neg h2]; omega
  unfold sizeF
  rcases hab with ⟨h1, h2⟩ | ⟨h1, h2⟩
  · have h3 : 2 * 2 ^ wE a ≤ 2 ^ wE b := by
      have : 2 ^ (wE a + 1) ≤ 2 ^ wE b := Nat.pow_le_pow_right (by omega) (by omega)
      rw [Nat.pow_succ] at this; omega
    have hp := Nat.two_pow_pos (wE a)
    have h4 : wM a * 2 ^ wE a < 9007199254740992 * 2 ^ wE a := Nat.mul_lt_mul_of_pos_right hb hp
    have h5 : 4503599627370496 * (2 * 2 ^ wE a) ≤ wM b * 2 ^ wE b := Nat.mul_le_mul h2 h3
    omega
  · rw [h1]; exact Nat.mul_lt_mul_of_pos_right h2 (Nat.two_pow_pos _)
theorem size_le (a b : Nat) (_hfa : b / 4503599627370496 % 2048 ≠ 2047) (h : a % 9223372036854775808 ≤ b % 9223372036854775808) (_hfb : a / 4503599627370496 % 2048 ≠ 2047) : sizeF a ≤ sizeF b := by
  rcases Nat.lt_or_eq_of_le h with h | h
  · exact Nat.le_of_lt (size_lt a b _hfb h)
  · have e1 : wM a = wM b := by
      unfold wM
      rw [show a / 4503599627370496 % 2048 = b / 4503599627370496 % 2048 by omega, show a % 4503599627370496 = b % 4503599627370496 by omega]
    have e2 : wE a = wE b := by
      unfold wE
      rw [show a / 4503599627370496 % 2048 = b / 4503599627370496 % 2048 by omega]
    unfold sizeF; rw [e1, e2]; exact Nat.le_refl _
theorem size_zero (a : Nat) (h : a % 9223372036854775808 = 0) : sizeF a = 0 := by
  unfold sizeF wM; rw [if_pos (by omega), show a % 4503599627370496 = 0 by omega, Nat.zero_mul]
theorem size_pos (a : Nat) (h : 0 < a % 9223372036854775808) : 0 < sizeF a := by
  unfold sizeF
  refine Nat.mul_pos ?_ (Nat.two_pow_pos _)
  unfold wM
  by_cases h1 : a / 4503599627370496 % 2048 = 0
  · rw [if_pos h1]; omega
  · rw [if_neg h1]; omega
/-- A finite float's number, in the least unit, twice. -/
def numF (a : Nat) : Int := if sgN a = true then -(sizeF a : Int) else (sizeF a : Int)
theorem signed_num (a c : Nat) (hc : c ≤ wE a) : Ieee.signed (decide (9223372036854775808 ≤ a)) (wM a) (((wE a : Int) - 1075) - ((c : Int) - 1075)).toNat * (2 ^ c : Nat) = numF a := by
  have h1 : (((wE a : Int) - 1075) - ((c : Int) - 1075)).toNat = wE a - c := by omega
  rw [h1]
  unfold Ieee.signed numF sizeF sgN
  rw [Nat.shiftLeft_eq]
  have h2 : wM a * 2 ^ wE a = wM a * 2 ^ (wE a - c) * 2 ^ c := by rw [Nat.mul_assoc, ← Nat.pow_add, show wE a - c + c = wE a by omega]
  rw [h2]
  by_cases h : 9223372036854775808 ≤ a
  · simp only [decide_eq_true h, if_true]
    rw [Int.neg_mul, ← Int.natCast_mul]
  · simp only [decide_eq_false h]
    rw [if_neg (by decide), if_neg (by decide), ← Int.natCast_mul]
theorem order_fin (a b : Nat) (ha : a < 18446744073709551616) (hb : b < 18446744073709551616) (hfa : a / 4503599627370496 % 2048 ≠ 2047) (hfb : b / 4503599627370496 % 2048 ≠ 2047) :
    (Ieee.double.order a b == some .lt) = decide (numF a < numF b) := by
  unfold Ieee.Format.order
  rw [read_fin a ha hfa, read_fin b hb hfb]
  simp only [Ieee.Datum.order]
  obtain ⟨c, hc⟩ : ∃ c : Nat, min ((wE a : Int) - 1075) ((wE b : Int) - 1075) = (c : Int) - 1075 ∧ c ≤ wE a ∧ c ≤ wE b := by
    rcases Nat.le_total (wE a) (wE b) with h | h
    · exact ⟨wE a, by omega, by omega, h⟩
    · exact ⟨wE b, by omega, h, by omega⟩
  rw [hc.1]
  have h1 := signed_num a c hc.2.1
  have h2 := signed_num b c hc.2.2
  rw [← h1, ← h2]
  have hp : (0 : Int) < ((2 ^ c : Nat) : Int) := by have := Nat.two_pow_pos c; omega
  generalize Ieee.signed (decide (9223372036854775808 ≤ a)) (wM a) (((wE a : Int) - 1075) - ((c : Int) - 1075)).toNat = A
  generalize Ieee.signed (decide (9223372036854775808 ≤ b)) (wM b) (((wE b : Int) - 1075) - ((c : Int) - 1075)).toNat = B
  generalize ((2 ^ c : Nat) : Int) = P at *
  by_cases h : A < B
  · have h3 : A * P < B * P := Int.mul_lt_mul_of_pos_right h hp
    rw [decide_eq_true h3]
    have : compare A B = .lt := Int.compare_eq_lt.2 h
    rw [this]; rfl
  · have h3 : ¬ A * P < B * P := fun x => h (Int.lt_of_mul_lt_mul_right x (Int.le_of_lt hp))
    rw [decide_eq_false h3]
    have : compare A B ≠ .lt := fun x => h (Int.compare_eq_lt.1 x)
    rw [beq_eq_false_iff_ne]
    intro x
    exact this (Option.some.inj x)
theorem less_ref (a b : Nat) (ha : a < 18446744073709551616) (hb : b < 18446744073709551616) : lessI (a : Int) (b : Int) = refLessN a b := by
  unfold lessI
  simp only [Int.toNat_natCast]
  unfold refLessN
  by_cases h1 : oddI (a : Int) = true ∨ oddI (b : Int) = true
  · rw [if_pos h1]
    unfold Ieee.Format.order
    rcases h1 with h | h
    · rw [odd_nat, decide_eq_true_eq] at h
      obtain ⟨s, t, e⟩ := read_nan a ha h.1 h.2
      rw [e]; rfl
    · rw [odd_nat, decide_eq_true_eq] at h
      obtain ⟨s, t, e⟩ := read_nan b hb h.1 h.2
      rw [e]
      cases Ieee.double.read a <;> rfl
  · rw [if_neg h1]
    have hoa : ¬ (a / 4503599627370496 % 2048 = 2047 ∧ a % 4503599627370496 ≠ 0) := fun h => h1 (.inl (by rw [odd_nat, decide_eq_true_eq]; exact h))
    have hob : ¬ (b / 4503599627370496 % 2048 = 2047 ∧ b % 4503599627370496 ≠ 0) := fun h => h1 (.inr (by rw [odd_nat, decide_eq_true_eq]; exact h))
    by_cases hfa : a / 4503599627370496 % 2048 = 2047
    · have ha0 : a % 4503599627370496 = 0 := by omega
      by_cases hfb : b / 4503599627370496 % 2048 = 2047
      · have hb0 : b % 4503599627370496 = 0 := by omega
        unfold Ieee.Format.order
        rw [read_inf a ha hfa ha0, read_inf b hb hfb hb0, if_neg (by omega)]
        unfold sgN
        by_cases h2 : 9223372036854775808 ≤ a <;> by_cases h3 : 9223372036854775808 ≤ b
        · rw [if_pos ⟨h2, h3⟩, decide_eq_true h2, decide_eq_true h3, decide_eq_false (by omega)]; rfl
        · rw [if_neg (by omega), if_neg (by omega), decide_eq_true h2, decide_eq_false h3]; rfl
        · rw [if_neg (by omega), if_neg (by omega), decide_eq_false h2, decide_eq_true h3]; rfl
        · rw [if_neg (by omega), if_pos (by omega), decide_eq_false h2, decide_eq_false h3, decide_eq_false (by omega)]; rfl
      · unfold Ieee.Format.order
        rw [read_inf a ha hfa ha0, read_fin b hb hfb, if_neg (by omega)]
        unfold sgN
        by_cases h2 : 9223372036854775808 ≤ a <;> by_cases h3 : 9223372036854775808 ≤ b
        · rw [if_pos ⟨h2, h3⟩, decide_eq_true h2, decide_eq_true (show b % 9223372036854775808 < a % 9223372036854775808 by omega)]; rfl
        · rw [if_neg (by omega), if_neg (by omega), decide_eq_true h2]; rfl
        · rw [if_neg (by omega), if_neg (by omega), decide_eq_false h2]; rfl
        · rw [if_neg (by omega), if_pos (by omega), decide_eq_false h2, decide_eq_false (show ¬ a % 9223372036854775808 < b % 9223372036854775808 by omega)]; rfl
    · by_cases hfb : b / 4503599627370496 % 2048 = 2047
      · have hb0 : b % 4503599627370496 = 0 := by omega
        unfold Ieee.Format.order
        rw [read_fin a ha hfa, read_inf b hb hfb hb0, if_neg (by omega)]
        unfold sgN
        by_cases h2 : 9223372036854775808 ≤ a <;> by_cases h3 : 9223372036854775808 ≤ b
        · rw [if_pos ⟨h2, h3⟩, decide_eq_true h3, decide_eq_false (show ¬ b % 9223372036854775808 < a % 9223372036854775808 by omega)]; rfl
        · rw [if_neg (by omega), if_neg (by omega), decide_eq_false h3, decide_eq_true h2]; rfl
        · rw [if_neg (by omega), if_neg (by omega), decide_eq_true h3, decide_eq_false h2]; rfl
        · rw [if_neg (by omega), if_pos (by omega), decide_eq_false h3, decide_eq_true (show a % 9223372036854775808 < b % 9223372036854775808 by omega)]; rfl
      · rw [order_fin a b ha hb hfa hfb]
        by_cases hz : a % 9223372036854775808 = 0 ∧ b % 9223372036854775808 = 0
        · rw [if_pos hz]
          unfold numF
          rw [size_zero a hz.1, size_zero b hz.2]
          simp
        · rw [if_neg hz]
          by_cases h2 : 9223372036854775808 ≤ a <;> by_cases h3 : 9223372036854775808 ≤ b
          · rw [if_pos ⟨h2, h3⟩, decide_eq_decide]
            unfold numF sgN
            rw [decide_eq_true h2, decide_eq_true h3, if_pos rfl, if_pos rfl]
            constructor
            · intro h
              rcases Nat.lt_or_ge (b % 9223372036854775808) (a % 9223372036854775808) with h4 | h4
              · exact h4
              · have := size_le a b hfb h4 hfa; omega
            · intro h
              have := size_lt b a hfb h; omega
          · rw [if_neg (by omega), if_neg (by omega), decide_eq_true h2, decide_eq_true_eq]
            unfold numF sgN
            rw [decide_eq_true h2, decide_eq_false h3, if_pos rfl, if_neg (by decide)]
            rcases Nat.eq_zero_or_pos (a % 9223372036854775808) with h4 | h4
            · have := size_pos b (by omega); omega
            · have := size_pos a h4; omega
          · rw [if_neg (by omega), if_neg (by omega), decide_eq_false h2, decide_eq_false_iff_not]
            unfold numF sgN
            rw [decide_eq_false h2, decide_eq_true h3, if_pos rfl, if_neg (by decide)]
            omega
          · rw [if_neg (by omega), if_pos (by omega), decide_eq_decide]
            unfold numF sgN
            rw [decide_eq_false h2, decide_eq_false h3, if_neg (by decide), if_neg (by decide)]
            constructor
            · intro h
              rcases Nat.lt_or_ge (a % 9223372036854775808) (b % 9223372036854775808) with h4 | h4
              · exact h4
              · have := size_le b a hfa h4 hfb; omega
            · intro h
              have := size_lt a b hfa h; omega
end Go.Proofs.Ythdlfjpdifipkaa
