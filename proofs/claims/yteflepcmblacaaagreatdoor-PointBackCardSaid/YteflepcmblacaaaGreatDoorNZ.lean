/- Plain facts on the bits of floats. -/
import Derived.Test.YteflepcmblacaaaGreatDoorZd
import Derived.Laws.FloatArith
import Derived.Lib.Hide
namespace Go.Proofs.YteflepcmblacaaaGreatDoor
open Go.RowKit
/-- Is that not a number? -/
def oddI (a : Int) : Bool := decide (a / 4503599627370496 % 2048 = 2047 ∧ a % 4503599627370496 ≠ 0)
/-- Is that finite? -/
def finI (a : Int) : Bool := decide (a / 4503599627370496 % 2048 ≠ 2047)
/-- The one odd one, if that is not a number. -/
def canonI (a : Int) : Int := if oddI a = true then 9221120237041090561 else a

theorem andNot_sign (a : Int) (h0 : 0 ≤ a) (h1 : a ≤ 18446744073709551615) : bits .andNot .u64 a 9223372036854775808 = a % 9223372036854775808 := by
  rw [u64_andNot a _ h0 (by omega) (by omega) (by omega)]
  have e : a.toNat &&& (18446744073709551615 - (9223372036854775808 : Int).toNat) = a.toNat % 2 ^ 63 := Nat.and_two_pow_sub_one_eq_mod a.toNat 63
  rw [e]; omega
theorem odd_bits (a : Int) (h0 : 0 ≤ a) (h1 : a ≤ 18446744073709551615) : decide (9218868437227405312 < bits .andNot .u64 a 9223372036854775808) = oddI a := by
  rw [andNot_sign a h0 h1]
  unfold oddI
  rw [decide_eq_decide]
  omega
theorem nat_and_shift (n m k : Nat) : n &&& (m <<< k) = ((n >>> k) &&& m) <<< k := by
  apply Nat.eq_of_testBit_eq
  intro i
  simp only [Nat.testBit_and, Nat.testBit_shiftLeft, Nat.testBit_shiftRight]
  by_cases h : k ≤ i
  · simp [h]
  · simp [h]
theorem and_inf (a : Int) (h0 : 0 ≤ a) (h1 : a ≤ 18446744073709551615) : bits .and .u64 a 9218868437227405312 = a / 4503599627370496 % 2048 * 4503599627370496 := by
  rw [u64_and a _ h0 (by omega) (by omega) (by omega)]
  have e := nat_and_shift a.toNat 2047 52
  have e2 : (a.toNat >>> 52) &&& 2047 = (a.toNat >>> 52) % 2 ^ 11 := Nat.and_two_pow_sub_one_eq_mod _ 11
  have e3 : (2047 <<< 52 : Nat) = (9218868437227405312 : Int).toNat := by decide
  rw [e2, e3, Nat.shiftRight_eq_div_pow, Nat.shiftLeft_eq] at e
  rw [e]
  omega
theorem finite_bits (a : Int) (h0 : 0 ≤ a) (h1 : a ≤ 18446744073709551615) : (bits .and .u64 a 9218868437227405312 != 9218868437227405312) = finI a := by
  rw [and_inf a h0 h1]
  unfold finI
  by_cases h : a / 4503599627370496 % 2048 = 2047
  · rw [h]; simp
  · have : a / 4503599627370496 % 2048 * 4503599627370496 ≠ 9218868437227405312 := by omega
    rw [decide_eq_true h, bne_iff_ne]; exact this
theorem canonI_range (a : Int) (h0 : 0 ≤ a) (h1 : a ≤ 18446744073709551615) : 0 ≤ canonI a ∧ canonI a ≤ 18446744073709551615 := by
  unfold canonI; split <;> omega
theorem canonI_canonI (a : Int) : canonI (canonI a) = canonI a := by
  unfold canonI
  split
  · rw [if_pos (by decide)]
  · rfl

/-- A sum's bits, the odd one for what is no number. -/
def addI (a b : Int) : Int := match floatBits .add .f64 a.toNat b.toNat with | some r => canonI r | none => 9221120237041090561
def subI (a b : Int) : Int := match floatBits .sub .f64 a.toNat b.toNat with | some r => canonI r | none => 9221120237041090561

/-- The bits that are answered for what is no number. -/
def nanOf (w : World) (x y : Nat) : Nat := (Question.nanBits .f64 x y).cut (w.tape w.drawn (.nanBits .f64 x y))
theorem nanOf_odd (w : World) (x y : Nat) : oddI (nanOf w x y : Int) = true ∧ (nanOf w x y : Int) ≤ 18446744073709551615 := by
  unfold nanOf Question.cut oddI
  generalize w.tape w.drawn (Question.nanBits .f64 x y) = t
  simp only [decide_eq_true_eq]
  have h1 : t % 2 < 2 := Nat.mod_lt _ (by omega)
  have h2 : t / 2 % (2 ^ 52 - 1) < 2 ^ 52 - 1 := Nat.mod_lt _ (by decide)
  generalize t % 2 = s at *
  generalize t / 2 % (2 ^ 52 - 1) = u at *
  omega
end Go.Proofs.YteflepcmblacaaaGreatDoor
