/- The document's sum of two finite floats is the nearest one, plainly. -/
import Derived.Test.YthdlfjpdifipkaaN6
namespace Go.Proofs.Ythdlfjpdifipkaa
set_option linter.unusedSectionVars false

/-- A finite float's digits and exponent. -/
def wM (a : Nat) : Nat := if a / 4503599627370496 % 2048 = 0 then a % 4503599627370496 else a % 4503599627370496 + 4503599627370496
def wE (a : Nat) : Nat := if a / 4503599627370496 % 2048 = 0 then 1 else a / 4503599627370496 % 2048
theorem wM_lt (a : Nat) : wM a < 9007199254740992 := by unfold wM; split <;> omega
theorem wE_bd (a : Nat) : 1 ≤ wE a ∧ wE a ≤ 2047 := by unfold wE; split <;> omega
theorem wM_hi (a : Nat) : 4503599627370496 ≤ wM a ∨ wE a = 1 := by unfold wM wE; split <;> omega
theorem read_fin (a : Nat) (ha : a < 18446744073709551616) (hf : a / 4503599627370496 % 2048 ≠ 2047) : Ieee.double.read a = .number (decide (9223372036854775808 ≤ a)) (wM a) ((wE a : Int) - 1075) := by
  have hs : Ieee.double.signWeight = 9223372036854775808 := by decide
  have hi : Ieee.double.infRung = 9218868437227405312 := by decide
  have hb : Ieee.double.binade = 4503599627370496 := by decide
  have hl : Ieee.double.leastPlace = -1074 := by decide
  unfold Ieee.Format.read
  simp only [hs, hi, hb, hl]
  have hn : (a / 9223372036854775808 % 2 == 1) = decide (9223372036854775808 ≤ a) := by
    by_cases h : 9223372036854775808 ≤ a
    · rw [decide_eq_true h, beq_iff_eq]; omega
    · rw [decide_eq_false h, beq_eq_false_iff_ne]; omega
  rw [hn]
  unfold wM wE
  by_cases h : a / 4503599627370496 % 2048 = 0
  · rw [if_pos h, if_pos h, if_pos (by omega)]
    congr 1; omega
  · rw [if_neg h, if_neg h, if_neg (by omega), if_pos (by omega)]
    congr 1 <;> omega

theorem shN_eight (d n : Nat) (hd : d ≤ 3) : shN d (8 * n) * 2 ^ d = 8 * n := by
  rcases shN_told d (8 * n) with h | ⟨_, h1, h2⟩
  · exact h.symm
  · have hd4 : d = 0 ∨ d = 1 ∨ d = 2 ∨ d = 3 := by omega
    rcases hd4 with rfl | rfl | rfl | rfl <;> simp only [Nat.reducePow] at h1 h2 ⊢ <;> omega
theorem shN_small (d n : Nat) (h1 : 1 ≤ d) (hn : n < 9007199254740992) : shN d (8 * n) < 36028797018963968 := by
  have hp : 2 * 2 ^ (d - 1) = 2 ^ d := by rw [show d = (d - 1) + 1 by omega, Nat.pow_succ, Nat.mul_comm]; simp
  have hp0 : 0 < 2 ^ (d - 1) := Nat.two_pow_pos _
  obtain ⟨Y, hY⟩ : ∃ Y, Y = shN d (8 * n) := ⟨_, rfl⟩
  have ht := shN_told d (8 * n)
  rw [← hY] at ht ⊢
  obtain ⟨Q, hQ⟩ : ∃ Q, Q = 2 ^ (d - 1) := ⟨_, rfl⟩
  rw [← hQ] at hp hp0
  unfold Told at ht
  rw [← hp] at ht
  rcases Nat.lt_or_ge Y 36028797018963968 with h | h
  · exact h
  · exfalso
    have g : 36028797018963968 * (2 * Q) ≤ Y * (2 * Q) := Nat.mul_le_mul_right _ h
    rcases ht with h2 | ⟨ho, h2, _⟩
    · omega
    · have g2 : 36028797018963968 * (2 * Q) ≤ (Y - 1) * (2 * Q) := Nat.mul_le_mul_right _ (by omega)
      omega
theorem shN_tiny (d n : Nat) (h1 : 4 ≤ d) (hn : n < 9007199254740992) : shN d (8 * n) ≤ 4503599627370496 := by
  have hp : 16 * 2 ^ (d - 4) = 2 ^ d := by rw [show d = (d - 4) + 4 by omega, Nat.pow_add, Nat.mul_comm]; simp
  have hp0 : 0 < 2 ^ (d - 4) := Nat.two_pow_pos _
  obtain ⟨Y, hY⟩ : ∃ Y, Y = shN d (8 * n) := ⟨_, rfl⟩
  have ht := shN_told d (8 * n)
  rw [← hY] at ht ⊢
  obtain ⟨Q, hQ⟩ : ∃ Q, Q = 2 ^ (d - 4) := ⟨_, rfl⟩
  rw [← hQ] at hp hp0
  unfold Told at ht
  rw [← hp] at ht
  rcases Nat.lt_or_ge 4503599627370496 Y with h | h
  · exfalso
    have g : 4503599627370496 * (16 * Q) ≤ (Y - 1) * (16 * Q) := Nat.mul_le_mul_right _ (by omega)
    have g3 : (Y - 1) * (16 * Q) ≤ Y * (16 * Q) := Nat.mul_le_mul_right _ (by omega)
    rcases ht with h2 | ⟨ho, h2, _⟩ <;> omega
  · exact h

section
variable (m e n f : Nat) (hm : m < 9007199254740992) (hn : n < 9007199254740992) (he : e ≤ 2047) (hf : 1 ≤ f) (hef : f ≤ e) (hmh : 4503599627370496 ≤ m ∨ e = 1)
include hm hn he hf hef hmh
theorem told_add : Told (8 * m + shN (e - f) (8 * n)) ((m * 2 ^ (e - f) + n) * 8) (e - f) := by
  have ht := shN_told (e - f) (8 * n)
  unfold Told at ht ⊢
  have e1 : ∀ x : Nat, (8 * m + x) * 2 ^ (e - f) = 8 * (m * 2 ^ (e - f)) + x * 2 ^ (e - f) := fun x => by rw [Nat.add_mul, Nat.mul_assoc]
  rcases ht with h | ⟨ho, h1, h2⟩
  · left; rw [e1]; omega
  · right
    refine ⟨by omega, ?_, ?_⟩
    · rw [show 8 * m + shN (e - f) (8 * n) - 1 = 8 * m + (shN (e - f) (8 * n) - 1) by omega, e1]; omega
    · rw [show 8 * m + shN (e - f) (8 * n) + 1 = 8 * m + (shN (e - f) (8 * n) + 1) by omega, e1]; omega
theorem near_add (h0 : 0 < m ∨ 0 < n) : nearX (m * 2 ^ (e - f) + n) (f + 3) = roundN (8 * m + shN (e - f) (8 * n)) e ∧ 0 < 8 * m + shN (e - f) (8 * n) := by
  have ht := told_add m e n f hm hn he hf hef hmh
  have hp := Nat.two_pow_pos (e - f)
  have hpos : 0 < m * 2 ^ (e - f) + n := by
    rcases h0 with h | h
    · have := Nat.mul_pos h hp; omega
    · omega
  have hX0 : 0 < 8 * m + shN (e - f) (8 * n) := by
    rcases Nat.eq_zero_or_pos (8 * m + shN (e - f) (8 * n)) with h | h
    · exfalso
      unfold Told at ht
      rw [h] at ht
      rcases ht with h1 | ⟨h1, _⟩
      · rw [Nat.zero_mul] at h1; omega
      · omega
    · exact h
  have hsm : 8 * m + shN (e - f) (8 * n) < 144115188075855872 := by
    by_cases hd : e - f = 0
    · rw [hd]; simp only [shN]; omega
    · have := shN_small (e - f) n (by omega) hn; omega
  have hN := nearX_told (8 * m + shN (e - f) (8 * n)) ((m * 2 ^ (e - f) + n) * 8) (e - f) f ht (by
    by_cases hd : e - f = 0
    · left; rw [hd]; simp only [shN, Nat.pow_zero]; omega
    · right; omega) hX0
  have hS := nearX_scale (m * 2 ^ (e - f) + n) 3 f hpos
  simp only [Nat.reducePow] at hS
  refine ⟨?_, hX0⟩
  rw [← hS, hN, show f + (e - f) = e by omega, roundN_near _ e hX0 (by omega) hsm]
theorem told_sub (hge : shN (e - f) (8 * n) ≤ 8 * m) : Told (8 * m - shN (e - f) (8 * n)) ((m * 2 ^ (e - f) - n) * 8) (e - f) := by
  have ht := shN_told (e - f) (8 * n)
  obtain ⟨Y, hY⟩ : ∃ Y, Y = shN (e - f) (8 * n) := ⟨_, rfl⟩
  rw [← hY] at ht hge ⊢
  unfold Told at ht ⊢
  have hp := Nat.two_pow_pos (e - f)
  obtain ⟨P, hP⟩ : ∃ P, P = 2 ^ (e - f) := ⟨_, rfl⟩
  rw [← hP] at ht hp ⊢
  have e1 : (8 * m - Y) * P = 8 * (m * P) - Y * P := by rw [Nat.sub_mul, Nat.mul_assoc]
  have e2 : Y * P ≤ 8 * (m * P) := by rw [← Nat.mul_assoc]; exact Nat.mul_le_mul_right _ hge
  rcases ht with h | ⟨ho, h1, h2⟩
  · left; rw [e1]; omega
  · right
    have e3 : (Y + 1) * P = Y * P + P := by rw [Nat.add_mul, Nat.one_mul]
    have e4 : (Y - 1) * P = Y * P - P := by rw [Nat.sub_mul, Nat.one_mul]
    have e5 : P ≤ Y * P := by have := Nat.mul_le_mul_right P (show 1 ≤ Y by omega); omega
    have e6 : (8 * m - Y - 1) * P = 8 * (m * P) - Y * P - P := by rw [Nat.sub_mul, e1, Nat.one_mul]
    have e7 : (8 * m - Y + 1) * P = 8 * (m * P) - Y * P + P := by rw [Nat.add_mul, e1, Nat.one_mul]
    have e8 : (Y + 1) * P ≤ 8 * (m * P) := by rw [← Nat.mul_assoc]; exact Nat.mul_le_mul_right _ (by omega)
    refine ⟨by omega, ?_, ?_⟩
    · rw [e6]; omega
    · rw [e7]; omega
theorem sub_order : (e - f = 0 ∧ shN (e - f) (8 * n) = 8 * n ∧ m * 2 ^ (e - f) = m) ∨ (1 ≤ e - f ∧ shN (e - f) (8 * n) < 8 * m ∧ n < m * 2 ^ (e - f)) := by
  by_cases hd : e - f = 0
  · left; rw [hd]; simp [shN]
  · right
    have h1 := shN_small (e - f) n (by omega) hn
    have h2 : m * 2 ≤ m * 2 ^ (e - f) := Nat.mul_le_mul_left _ (by
      have := Nat.pow_le_pow_right (n := 2) (by omega) (show 1 ≤ e - f by omega)
      simpa using this)
    omega
theorem near_sub (hgt : n < m * 2 ^ (e - f)) : nearX (m * 2 ^ (e - f) - n) (f + 3) = roundN (8 * m - shN (e - f) (8 * n)) e ∧ shN (e - f) (8 * n) < 8 * m := by
  have ho := sub_order m e n f hm hn he hf hef hmh
  have hlt : shN (e - f) (8 * n) < 8 * m := by
    rcases ho with ⟨_, h1, h2⟩ | ⟨_, h, _⟩
    · rw [h1]; omega
    · exact h
  have ht := told_sub m e n f hm hn he hf hef hmh (by omega)
  have hN := nearX_told (8 * m - shN (e - f) (8 * n)) ((m * 2 ^ (e - f) - n) * 8) (e - f) f ht (by
    by_cases hd : e - f ≤ 3
    · left
      have := shN_eight (e - f) n hd
      have e9 : (8 * m - shN (e - f) (8 * n)) * 2 ^ (e - f) = 8 * m * 2 ^ (e - f) - shN (e - f) (8 * n) * 2 ^ (e - f) := Nat.sub_mul _ _ _
      rw [e9, this, Nat.mul_assoc]
      omega
    · right
      have := shN_tiny (e - f) n (by omega) hn
      omega) (by omega)
  have hS := nearX_scale (m * 2 ^ (e - f) - n) 3 f (by omega)
  simp only [Nat.reducePow] at hS
  refine ⟨?_, hlt⟩
  rw [← hS, hN, show f + (e - f) = e by omega, roundN_near _ e (by omega) (by omega) (by omega)]
end
end Go.Proofs.Ythdlfjpdifipkaa
