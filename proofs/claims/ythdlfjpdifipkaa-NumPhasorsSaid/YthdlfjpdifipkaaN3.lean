/- Plain facts on sums of floats. -/
import Derived.Test.YthdlfjpdifipkaaN0
namespace Go.Proofs.Ythdlfjpdifipkaa
open Go.RowKit
theorem sum_comm (d e : Ieee.Datum) : d.sum e = e.sum d := by
  cases d <;> cases e <;> simp only [Ieee.Datum.sum]
  · rename_i s m i t n j
    rw [Int.min_comm j i, Int.add_comm, Bool.and_comm]
  · rename_i s t
    by_cases h : s = t
    · subst h; rfl
    · rw [if_neg h, if_neg (fun x => h x.symm)]
theorem addI_comm (a b : Int) : addI a b = addI b a := by
  unfold addI floatBits FloatKind.format
  simp only [Ieee.Format.add]
  rw [sum_comm]
theorem read_opposite (y : Nat) (hy : y < 18446744073709551616) : Ieee.double.read (if y < 9223372036854775808 then y + 9223372036854775808 else y - 9223372036854775808) = (Ieee.double.read y).opposite := by
  have hs : Ieee.double.signWeight = 9223372036854775808 := by decide
  unfold Ieee.Format.read
  simp only [hs]
  have hr : (if y < 9223372036854775808 then y + 9223372036854775808 else y - 9223372036854775808) % 9223372036854775808 = y % 9223372036854775808 := by split <;> omega
  have hn : ((if y < 9223372036854775808 then y + 9223372036854775808 else y - 9223372036854775808) / 9223372036854775808 % 2 == 1) = !(y / 9223372036854775808 % 2 == 1) := by
    split
    · have h1 : (y + 9223372036854775808) / 9223372036854775808 % 2 = 1 := by omega
      have h2 : y / 9223372036854775808 % 2 = 0 := by omega
      rw [h1, h2]; rfl
    · have h1 : (y - 9223372036854775808) / 9223372036854775808 % 2 = 0 := by omega
      have h2 : y / 9223372036854775808 % 2 = 1 := by omega
      rw [h1, h2]; rfl
  rw [hr, hn]
  split
  · rfl
  · split
    · rfl
    · split <;> rfl
/-- A float with the other sign. -/
def minusI (b : Int) : Int := if b < 9223372036854775808 then b + 9223372036854775808 else b - 9223372036854775808
theorem minusI_range (b : Int) (h0 : 0 ≤ b) (h1 : b ≤ 18446744073709551615) : 0 ≤ minusI b ∧ minusI b ≤ 18446744073709551615 := by unfold minusI; split <;> omega
theorem xor_sign (b : Int) (h0 : 0 ≤ b) (h1 : b ≤ 18446744073709551615) : bits .xor .u64 b 9223372036854775808 = minusI b := by
  rw [u64_xor b _ h0 (by omega) (by omega) (by omega)]
  obtain ⟨n, rfl⟩ : ∃ n : Nat, b = n := ⟨b.toNat, by omega⟩
  have e : n ^^^ 9223372036854775808 = if n < 9223372036854775808 then n + 9223372036854775808 else n - 9223372036854775808 := by
    have hx : ∀ m : Nat, m < 2 ^ 63 → m ^^^ 2 ^ 63 = m + 2 ^ 63 := fun m hm => by
      have h1 : m ^^^ 2 ^ 63 = m ||| 2 ^ 63 := by
        apply Nat.eq_of_testBit_eq
        intro i
        simp only [Nat.testBit_xor, Nat.testBit_or]
        by_cases hi : i = 63
        · subst hi; rw [Nat.testBit_lt_two_pow hm]; rfl
        · rw [Nat.testBit_two_pow_of_ne (by omega)]; simp
      rw [h1, Nat.or_comm, nat_join 63 (2 ^ 63) m (by decide) hm]; omega
    split
    · rename_i h; exact hx n (by omega)
    · rename_i h
      have h2 := hx (n - 9223372036854775808) (by omega)
      have h3 : n = (n - 9223372036854775808) + 2 ^ 63 := by omega
      have h4 : n ^^^ 9223372036854775808 = (n - 9223372036854775808) ^^^ 2 ^ 63 ^^^ 9223372036854775808 := by rw [h2, ← h3]
      rw [h4, Nat.xor_assoc]
      simp
  simp only [Int.toNat_natCast, Int.reduceToNat]
  rw [e]
  unfold minusI
  split <;> split <;> omega
theorem subI_minus (a b : Int) (h0 : 0 ≤ b) (h1 : b ≤ 18446744073709551615) : subI a b = addI a (minusI b) := by
  unfold subI addI floatBits FloatKind.format
  simp only [Ieee.Format.add, Ieee.Format.sub]
  have e : (minusI b).toNat = if b.toNat < 9223372036854775808 then b.toNat + 9223372036854775808 else b.toNat - 9223372036854775808 := by
    unfold minusI; split <;> split <;> omega
  rw [e, read_opposite _ (by omega)]
theorem subI_self (a : Int) (h0 : 0 ≤ a) (h1 : a ≤ 18446744073709551615) : subI a a = if finI a = true then 0 else 9221120237041090561 := by
  have hs : Ieee.double.signWeight = 9223372036854775808 := by decide
  have hi : Ieee.double.infRung = 9218868437227405312 := by decide
  have hbin : Ieee.double.binade = 4503599627370496 := by decide
  have hfin : finI a = decide (a.toNat % 9223372036854775808 < 9218868437227405312) := by
    unfold finI; rw [decide_eq_decide]; omega
  unfold subI floatBits FloatKind.format
  simp only [Ieee.Format.sub]
  unfold Ieee.Format.read
  simp only [hs, hi, hbin]
  have hz : ∀ (s : Bool) (m : Nat) (i : Int), ((Ieee.Datum.number s m i).sum (Ieee.Datum.number s m i).opposite).map Ieee.double.write = some 0 := by
    intro s m i
    simp only [Ieee.Datum.opposite, Ieee.Datum.sum, Ieee.signed]
    cases s <;> simp [Ieee.Format.write, Ieee.Format.nearest, Ieee.Format.word, Int.add_right_neg, Int.add_left_neg]
  by_cases hf : a.toNat % 9223372036854775808 < 9218868437227405312
  · rw [hfin, decide_eq_true hf, if_pos rfl]
    by_cases hb : a.toNat % 9223372036854775808 < 4503599627370496
    · rw [if_pos hb, hz]; rfl
    · rw [if_neg hb, if_pos hf, hz]; rfl
  · rw [hfin, decide_eq_false hf, if_neg (show ¬ a.toNat % 9223372036854775808 < 4503599627370496 from by omega), if_neg hf, if_neg (show ¬ (false = true) from by decide)]
    by_cases he : a.toNat % 9223372036854775808 = 9218868437227405312
    · rw [if_pos he]
      simp only [Ieee.Datum.opposite, Ieee.Datum.sum]
      cases (a.toNat / 9223372036854775808 % 2 == 1) <;> rfl
    · rw [if_neg he]; rfl
end Go.Proofs.Ythdlfjpdifipkaa
