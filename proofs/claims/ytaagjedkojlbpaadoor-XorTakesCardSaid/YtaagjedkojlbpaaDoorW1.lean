/- Layer 7, plainly: how many bits stand ahead of the first and behind the last one that is set. -/
import Derived.Test.YtaagjedkojlbpaaDoorVX
import Derived.Lib.TrailingZeros
import Derived.Lib.BitFns
import Derived.Lib.ItoaNum
namespace Go.Proofs.YtaagjedkojlbpaaDoor
open Go.RowKit

/-- How many bits 0 stand ahead, and behind, among a number's 64. -/
def lzN (x : Nat) : Nat := 64 - Lib.bitLen x
def tzN (x : Nat) : Nat := Lib.ctz 64 x
theorem p64 : (18446744073709551616 : Nat) = 2 ^ 64 := by decide
theorem bitLen_64 (x : Nat) (h : x < 18446744073709551616) : Lib.bitLen x ≤ 64 := Lib.bitLen_le x 64 (Nat.le_refl _) (by omega)
theorem lz_spec (x : Nat) (h : x < 18446744073709551616) (h0 : x ≠ 0) : lzN x ≤ 63 ∧ 2 ^ (63 - lzN x) ≤ x ∧ x < 2 ^ (64 - lzN x) := by
  have hb := bitLen_64 x h
  obtain ⟨a, b, c⟩ := Lib.bitLenAux_bounds 64 x (by omega) h0
  have e : Lib.bitLen x = Lib.bitLenAux 64 x := rfl
  unfold lzN
  rw [← e] at a b c
  refine ⟨by omega, ?_, ?_⟩
  · rw [show 63 - (64 - Lib.bitLen x) = Lib.bitLen x - 1 by omega]; exact b
  · rw [show 64 - (64 - Lib.bitLen x) = Lib.bitLen x by omega]; exact c
theorem lz_zero : lzN 0 = 64 := by unfold lzN Lib.bitLen; decide
theorem tz_zero : tzN 0 = 64 := rfl
theorem tz_spec (x : Nat) (h : x < 18446744073709551616) (h0 : x ≠ 0) : tzN x ≤ 63 ∧ ∃ m, x = 2 ^ tzN x * (2 * m + 1) := by
  obtain ⟨m, hm, hk⟩ := Lib.ctzFrom_spec 64 x (by omega) (by omega)
  have e : tzN x = Lib.ctzFrom 64 x := by unfold tzN Lib.ctz; rw [if_neg h0]
  rw [e]
  exact ⟨by omega, m, hm⟩
theorem lz_le (x f : Nat) (h : x < 18446744073709551616) (hf : f ≤ 64) : f ≤ lzN x ↔ x < 2 ^ (64 - f) := by
  by_cases h0 : x = 0
  · subst h0; rw [lz_zero]; exact ⟨fun _ => Nat.two_pow_pos _, fun _ => hf⟩
  · obtain ⟨a, b, c⟩ := lz_spec x h h0
    constructor
    · intro hl
      exact Nat.lt_of_lt_of_le c (Nat.pow_le_pow_right (by omega) (by omega))
    · intro hx
      by_cases hl : f ≤ lzN x
      · exact hl
      · have : 2 ^ (64 - f) ≤ 2 ^ (63 - lzN x) := Nat.pow_le_pow_right (by omega) (by omega)
        omega
theorem tz_le (x d : Nat) (h : x < 18446744073709551616) (hd : d ≤ 64) : d ≤ tzN x ↔ x % 2 ^ d = 0 := by
  by_cases h0 : x = 0
  · subst h0; rw [tz_zero]; simp; exact hd
  · obtain ⟨a, m, hm⟩ := tz_spec x h h0
    obtain ⟨k, hk⟩ : ∃ k, k = tzN x := ⟨_, rfl⟩
    rw [← hk] at hm a ⊢
    constructor
    · intro hl
      obtain ⟨c, rfl⟩ : ∃ c, k = d + c := ⟨k - d, by omega⟩
      rw [hm, Nat.pow_add, Nat.mul_assoc, Nat.mul_mod_right]
    · intro hx
      by_cases hl : d ≤ k
      · exact hl
      · obtain ⟨c, rfl⟩ : ∃ c, d = k + (c + 1) := ⟨d - k - 1, by omega⟩
        obtain ⟨q, hq⟩ := Nat.dvd_of_mod_eq_zero hx
        rw [hm, Nat.pow_add, Nat.mul_assoc] at hq
        have := Nat.eq_of_mul_eq_mul_left (Nat.two_pow_pos k) hq
        rw [Nat.pow_succ, Nat.mul_comm (2 ^ c) 2, Nat.mul_assoc] at this
        omega
theorem lz_tz (x : Nat) (h : x < 18446744073709551616) (h0 : x ≠ 0) : lzN x + tzN x ≤ 63 := by
  obtain ⟨a, b, c⟩ := lz_spec x h h0
  obtain ⟨a', m, hm⟩ := tz_spec x h h0
  have h1 : 2 ^ tzN x ≤ x := by
    have : 2 ^ tzN x * 1 ≤ 2 ^ tzN x * (2 * m + 1) := Nat.mul_le_mul_left _ (by omega)
    omega
  have h2 : 2 ^ tzN x < 2 ^ (64 - lzN x) := by omega
  have := (Nat.pow_lt_pow_iff_right (by omega : 1 < 2)).1 h2
  omega
/-- The bits by testBit. -/
theorem lz_bits (x i : Nat) (h : x < 18446744073709551616) (hi : i < lzN x) : x.testBit (63 - i) = false := by
  by_cases h0 : x = 0
  · subst h0; simp
  · obtain ⟨a, b, c⟩ := lz_spec x h h0
    exact Nat.testBit_lt_two_pow (Nat.lt_of_lt_of_le c (Nat.pow_le_pow_right (by omega) (by omega)))
theorem lz_bit (x : Nat) (h : x < 18446744073709551616) (h0 : x ≠ 0) : x.testBit (63 - lzN x) = true := by
  obtain ⟨a, b, c⟩ := lz_spec x h h0
  rw [Nat.testBit_eq_decide_div_mod_eq]
  have e : 64 - lzN x = 63 - lzN x + 1 := by omega
  rw [e, Nat.pow_succ] at c
  have h1 : x / 2 ^ (63 - lzN x) < 2 := Nat.div_lt_of_lt_mul c
  have h2 : 1 ≤ x / 2 ^ (63 - lzN x) := (Nat.le_div_iff_mul_le (Nat.two_pow_pos _)).2 (by omega)
  simp; omega
theorem tz_bits (x j : Nat) (h : x < 18446744073709551616) (hj : j < tzN x) : x.testBit j = false := by
  by_cases h0 : x = 0
  · subst h0; simp
  · obtain ⟨a, m, hm⟩ := tz_spec x h h0
    rw [hm, Nat.mul_comm, Nat.testBit_mul_two_pow]
    simp; omega
theorem tz_bit (x : Nat) (h : x < 18446744073709551616) (h0 : x ≠ 0) : x.testBit (tzN x) = true := by
  obtain ⟨a, m, hm⟩ := tz_spec x h h0
  obtain ⟨k, hk⟩ : ∃ k, k = tzN x := ⟨_, rfl⟩
  rw [← hk] at hm ⊢
  rw [hm, Nat.mul_comm, Nat.testBit_mul_two_pow]
  simp

/-- Is every bit that is set in the window? -/
def inW (f s x : Nat) : Prop := f ≤ lzN x ∧ 64 - f - s ≤ tzN x
instance (f s x : Nat) : Decidable (inW f s x) := by unfold inW; infer_instance
/-- The new window. -/
def newF (x : Nat) : Nat := min (lzN x) 31
def newS (x : Nat) : Nat := 64 - newF x - tzN x
/-- The bits in a window. -/
def midB (f s x : Nat) : List Bool := bitsN (x / 2 ^ (64 - f - s)) s
/-- A window that may be: none, or one within the 64 bits. -/
def okW (f s : Nat) : Prop := (f = 0 ∧ s = 0) ∨ (1 ≤ s ∧ f ≤ 31 ∧ f + s ≤ 64)
theorem okW.le {f s : Nat} (h : okW f s) : f ≤ 31 ∧ s ≤ 64 ∧ f + s ≤ 64 := by unfold okW at h; omega
theorem new_ok (x : Nat) (h : x < 18446744073709551616) (h0 : x ≠ 0) : 1 ≤ newS x ∧ newF x ≤ 31 ∧ newF x + newS x ≤ 64 ∧ newF x + newS x = 64 - tzN x := by
  have := lz_tz x h h0
  unfold newS newF
  omega
theorem new_in (x : Nat) (h : x < 18446744073709551616) (h0 : x ≠ 0) : inW (newF x) (newS x) x := by
  have := new_ok x h h0
  refine ⟨by unfold newF; omega, by omega⟩
/-- The bits of a turned float that isn't 0, and the window from then on. -/
def putX (f s x : Nat) : List Bool × Nat × Nat :=
  if x = 0 then ([false], f, s)
  else if 0 < s ∧ inW f s x then ([true, false] ++ midB f s x, f, s)
  else ([true, true] ++ bitsN (newF x) 5 ++ bitsN (newS x - 1) 6 ++ midB (newF x) (newS x) x, newF x, newS x)
theorem putX_cases (f s x : Nat) (hx : x < 18446744073709551616) : (x = 0 ∧ putX f s x = ([false], f, s)) ∨ (x ≠ 0 ∧ 0 < s ∧ inW f s x ∧ putX f s x = ([true, false] ++ midB f s x, f, s)) ∨
    (x ≠ 0 ∧ ¬ (0 < s ∧ inW f s x) ∧ (1 ≤ newS x ∧ newF x ≤ 31 ∧ newF x + newS x ≤ 64) ∧ putX f s x = ([true, true] ++ bitsN (newF x) 5 ++ bitsN (newS x - 1) 6 ++ midB (newF x) (newS x) x, newF x, newS x)) := by
  by_cases h0 : x = 0
  · exact .inl ⟨h0, by unfold putX; rw [if_pos h0]⟩
  · by_cases h1 : 0 < s ∧ inW f s x
    · exact .inr (.inl ⟨h0, h1.1, h1.2, by unfold putX; rw [if_neg h0, if_pos h1]⟩)
    · have := new_ok x hx h0
      exact .inr (.inr ⟨h0, h1, by omega, by unfold putX; rw [if_neg h0, if_neg h1]⟩)
theorem putX_ok (f s x : Nat) (hx : x < 18446744073709551616) (h : okW f s) : okW (putX f s x).2.1 (putX f s x).2.2 := by
  rcases putX_cases f s x hx with ⟨_, e⟩ | ⟨_, _, _, e⟩ | ⟨_, _, hn, e⟩
  · rw [e]; exact h
  · rw [e]; exact h
  · rw [e]; exact .inr (by omega)
theorem midB_length (f s x : Nat) : (midB f s x).length = s := by unfold midB; rw [bitsN_length]
theorem putX_length (f s x : Nat) (hx : x < 18446744073709551616) (h : okW f s) : 1 ≤ (putX f s x).1.length ∧ (putX f s x).1.length ≤ 77 := by
  have hle := h.le
  rcases putX_cases f s x hx with ⟨_, e⟩ | ⟨_, _, _, e⟩ | ⟨_, _, hn, e⟩
  · rw [e]; simp
  · rw [e]; simp [midB_length]; omega
  · rw [e]; simp [midB_length]; omega
theorem mid_div (f s x : Nat) (h : x < 18446744073709551616) (hs : f + s ≤ 64) (hi : inW f s x) : x / 2 ^ (64 - f - s) < 2 ^ s ∧ x / 2 ^ (64 - f - s) * 2 ^ (64 - f - s) = x := by
  have h1 := (lz_le x f h (by omega)).1 hi.1
  have h2 := (tz_le x (64 - f - s) h (by omega)).1 hi.2
  refine ⟨?_, Nat.div_mul_cancel (Nat.dvd_of_mod_eq_zero h2)⟩
  apply Nat.div_lt_of_lt_mul
  rw [← Nat.pow_add, show 64 - f - s + s = 64 - f by omega]
  exact h1
/-- What bits in a window tell. -/
def outX (f s y : Nat) : Nat := y * 2 ^ (64 - f - s)
theorem outX_lt (f s y : Nat) (hs : f + s ≤ 64) (hy : y < 2 ^ s) : outX f s y < 18446744073709551616 := by
  unfold outX
  have : y * 2 ^ (64 - f - s) < 2 ^ s * 2 ^ (64 - f - s) := Nat.mul_lt_mul_of_pos_right hy (Nat.two_pow_pos _)
  rw [← Nat.pow_add] at this
  rw [p64]
  exact Nat.lt_of_lt_of_le this (Nat.pow_le_pow_right (by omega) (by omega))
theorem outX_in (f s y : Nat) (hs : f + s ≤ 64) (hy : y < 2 ^ s) : inW f s (outX f s y) := by
  have hl := outX_lt f s y hs hy
  refine ⟨(lz_le _ _ hl (by omega)).2 ?_, (tz_le _ _ hl (by omega)).2 ?_⟩
  · unfold outX
    have : y * 2 ^ (64 - f - s) < 2 ^ s * 2 ^ (64 - f - s) := Nat.mul_lt_mul_of_pos_right hy (Nat.two_pow_pos _)
    rw [← Nat.pow_add, show s + (64 - f - s) = 64 - f by omega] at this
    exact this
  · unfold outX; rw [Nat.mul_mod_left]
theorem outX_zero (f s y : Nat) : outX f s y = 0 ↔ y = 0 := by
  unfold outX
  have := Nat.two_pow_pos (64 - f - s)
  constructor
  · intro h; rcases Nat.mul_eq_zero.1 h with h | h <;> omega
  · rintro rfl; simp
theorem outX_mid (f s y : Nat) : midB f s (outX f s y) = bitsN y s := by
  unfold midB outX; rw [Nat.mul_div_cancel _ (Nat.two_pow_pos _)]
theorem mid_out (f s x : Nat) (h : x < 18446744073709551616) (hs : f + s ≤ 64) (hi : inW f s x) : outX f s (numB (midB f s x)) = x := by
  obtain ⟨h1, h2⟩ := mid_div f s x h hs hi
  unfold outX midB
  rw [numB_bitsN _ _ h1, h2]
/-- The window's bits, as a part of all. -/
theorem mid_cut (f s x : Nat) (hs : f + s ≤ 64) : ((bitsN x 64).drop f).take s = midB f s x := by
  unfold midB
  have e : (64 : Nat) = f + (s + (64 - f - s)) := by omega
  have e1 : bitsN x 64 = bitsN (x / 2 ^ (s + (64 - f - s))) f ++ (bitsN (x / 2 ^ (64 - f - s)) s ++ bitsN x (64 - f - s)) := by
    rw [← bitsN_add, ← bitsN_add, ← e]
  rw [e1, List.drop_left' (by rw [bitsN_length]), List.take_left' (by rw [bitsN_length])]
end Go.Proofs.YtaagjedkojlbpaaDoor
