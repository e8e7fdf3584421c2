/- Plain facts on numbers, which import nothing of a translation: Zig and Zag; exclusive or with no bits and with all bits. -/
import Derived.WalkKit
namespace Go.Proofs.Ytkidbbmdlmnokaa
open Go.RowKit

/-- A signed number as one that isn't. -/
def zigI (a : Int) : Int := if 0 ≤ a then 2 * a else -2 * a - 1
/-- And turned back. -/
def zagI (v : Int) : Int := if v % 2 = 0 then v / 2 else -(v / 2) - 1

theorem zigI_range (a : Int) (h0 : -9223372036854775808 ≤ a) (h1 : a ≤ 9223372036854775807) : 0 ≤ zigI a ∧ zigI a ≤ 18446744073709551615 := by
  unfold zigI; split <;> omega
theorem zagI_range (v : Int) (h0 : 0 ≤ v) (h1 : v ≤ 18446744073709551615) : -9223372036854775808 ≤ zagI v ∧ zagI v ≤ 9223372036854775807 := by
  unfold zagI; split <;> omega
theorem zag_zig (a : Int) : zagI (zigI a) = a := by
  unfold zagI zigI; split <;> split <;> omega
theorem zig_zag (v : Int) (h0 : 0 ≤ v) : zigI (zagI v) = v := by
  unfold zagI zigI; split <;> split <;> omega
theorem zig_inj (a b : Int) (h : zigI a = zigI b) : a = b := by
  rw [← zag_zig a, h, zag_zig]

theorem wrap_u64_of (x : Int) (h0 : 0 ≤ x) (h1 : x ≤ 18446744073709551615) : IntKind.u64.wrap x = x := by
  rw [IntKind.wrap_u64]; omega

theorem xor_u64_none (x : Int) (h0 : 0 ≤ x) (h1 : x ≤ 18446744073709551615) : bits .xor .u64 x 0 = x := by
  have h := u64_xor x 0 h0 (by omega) (by omega) (by omega)
  rw [h]; simp; omega

theorem xor_u64_all (x : Int) (h0 : 0 ≤ x) (h1 : x ≤ 18446744073709551615) : bits .xor .u64 x 18446744073709551615 = 18446744073709551615 - x := by
  obtain ⟨n, rfl⟩ : ∃ n : Nat, x = n := ⟨x.toNat, by omega⟩
  have hn : n < 2 ^ 64 := by omega
  have h := u64_xor_nat n 18446744073709551615 (by omega) (by omega)
  have e : n ^^^ 18446744073709551615 = 18446744073709551615 - n := by
    have b := congrArg BitVec.toNat (BitVec.xor_allOnes (x := BitVec.ofNat 64 n))
    simpa [BitVec.toNat_xor, BitVec.toNat_allOnes, BitVec.toNat_not, Nat.mod_eq_of_lt hn] using b
  have h' := h
  rw [e] at h'
  have : ((18446744073709551615 - n : Nat) : Int) = 18446744073709551615 - (n : Int) := by omega
  rw [this] at h'
  exact h'

/-- What Zig's shifts and exclusive or come to. -/
theorem zig_bits (a : Int) (h0 : -9223372036854775808 ≤ a) (h1 : a ≤ 9223372036854775807) :
    bits .xor .u64 (IntKind.u64.wrap (IntKind.u64.wrap a * 2)) (IntKind.u64.wrap (a / 9223372036854775808)) = zigI a := by
  simp only [IntKind.wrap_u64]
  by_cases h : 0 ≤ a
  · have e : (a / 9223372036854775808) % 18446744073709551616 = 0 := by omega
    have e2 : a % 18446744073709551616 * 2 % 18446744073709551616 = 2 * a := by omega
    rw [e, e2, xor_u64_none _ (by omega) (by omega)]
    unfold zigI; rw [if_pos h]
  · have e : (a / 9223372036854775808) % 18446744073709551616 = 18446744073709551615 := by omega
    have e2 : a % 18446744073709551616 * 2 % 18446744073709551616 = 18446744073709551616 + 2 * a := by omega
    rw [e, e2, xor_u64_all _ (by omega) (by omega)]
    unfold zigI; rw [if_neg h]; omega
end Go.Proofs.Ytkidbbmdlmnokaa
namespace Go.Proofs.Ytkidbbmdlmnokaa
open Go.RowKit
theorem xor_i64_eq (x y : Int) : bits .xor .i64 x y = IntKind.i64.wrap ((BitVec.ofInt 64 x ^^^ BitVec.ofInt 64 y).toNat : Int) := rfl
theorem wrap_i64_ofInt (x : Int) (h0 : -9223372036854775808 ≤ x) (h1 : x ≤ 9223372036854775807) : IntKind.i64.wrap ((BitVec.ofInt 64 x).toNat : Int) = x := by
  rw [BitVec.toNat_ofInt]
  simp [IntKind.bits, IntKind.wrap, IntKind.signed]
  omega
theorem xor_i64_none (x : Int) (h0 : -9223372036854775808 ≤ x) (h1 : x ≤ 9223372036854775807) : bits .xor .i64 x 0 = x := by
  have h : (BitVec.ofInt 64 x ^^^ BitVec.ofInt 64 0) = BitVec.ofInt 64 x := by simp
  rw [xor_i64_eq, h, wrap_i64_ofInt x h0 h1]
theorem xor_i64_all (x : Int) (h0 : -9223372036854775808 ≤ x) (h1 : x ≤ 9223372036854775807) : bits .xor .i64 x (-1) = -1 - x := by
  have h : (BitVec.ofInt 64 x ^^^ BitVec.ofInt 64 (-1)) = ~~~ BitVec.ofInt 64 x := by
    have : BitVec.ofInt 64 (-1) = BitVec.allOnes 64 := by decide
    rw [this, BitVec.xor_allOnes]
  rw [xor_i64_eq, h, BitVec.toNat_not, BitVec.toNat_ofInt]
  simp [IntKind.bits, IntKind.wrap, IntKind.signed]
  omega
theorem and1_u64 (v : Int) (h0 : 0 ≤ v) (h1 : v ≤ 18446744073709551615) : bits .and .u64 v 1 = v % 2 := by
  rw [u64_and v 1 h0 (by omega) (by omega) (by omega)]
  have := nat_mask1 v.toNat
  simp only [Int.toNat_one] at *
  rw [this]; omega

/-- How many bytes a number's form has behind the first one. -/
def oth (v : Int) : Nat :=
  if v < 128 then 0 else if v < 16384 then 1 else if v < 2097152 then 2 else if v < 268435456 then 3 else if v < 34359738368 then 4 else if v < 4398046511104 then 5 else if v < 562949953421312 then 6 else if v < 72057594037927936 then 7 else 8
theorem oth_le (v : Int) : oth v ≤ 8 := by unfold oth; (repeat' split) <;> omega
theorem oth_more (v : Int) (k : Nat) (_h0 : 0 ≤ v) (h : k < oth v) : ((2 ^ (7 + 7 * k) : Nat) : Int) ≤ v := by
  unfold oth at h
  have : k = 0 ∨ k = 1 ∨ k = 2 ∨ k = 3 ∨ k = 4 ∨ k = 5 ∨ k = 6 ∨ k = 7 := by (repeat' split at h) <;> omega
  rcases this with rfl | rfl | rfl | rfl | rfl | rfl | rfl | rfl <;> simp <;> (repeat' split at h) <;> omega
end Go.Proofs.Ytkidbbmdlmnokaa
namespace Go.Proofs.Ytkidbbmdlmnokaa
open Go.RowKit
theorem oth_end (v : Int) (k : Nat) (h : oth v = k) (hk : k < 8) : v < ((2 ^ (7 + 7 * k) : Nat) : Int) := by
  subst h
  unfold oth at *
  (repeat' split) <;> simp_all <;> omega
/-- What Zag's shifts and exclusive or come to. -/
theorem zag_bits (v : Int) (h0 : 0 ≤ v) (h1 : v ≤ 18446744073709551615) : bits .xor .i64 (v / 2) (wrap64 (-wrap64 (bits .and .u64 v 1))) = zagI v := by
  have e1 : wrap64 (bits .and .u64 v 1) = v % 2 := by rw [and1_u64 v h0 h1]; unfold wrap64; omega
  have e2 : wrap64 (-(v % 2)) = -(v % 2) := by unfold wrap64; omega
  rw [e1, e2]
  unfold zagI
  by_cases h : v % 2 = 0
  · rw [h, if_pos rfl]; exact xor_i64_none _ (by omega) (by omega)
  · have e : v % 2 = 1 := by omega
    rw [e, if_neg (by omega), xor_i64_all _ (by omega) (by omega)]; omega
end Go.Proofs.Ytkidbbmdlmnokaa
namespace Go.Proofs.Ytkidbbmdlmnokaa
open Go.RowKit
/-- The byte at place j from the low end. -/
def byteI (v : Int) (j : Nat) : Int := v / ((256 ^ j : Nat) : Int) % 256
/-- The first byte of a number's form: k bits set, one not, and the number's top bits. -/
def firstB (v : Int) (k : Nat) : Int := 256 - ((2 ^ (8 - k) : Nat) : Int) + v / ((256 ^ k : Nat) : Int)
/-- What stands behind the first byte: j of k bytes, the highest first. -/
def restB (v : Int) (k j : Nat) : List Int := (List.range j).map fun i => byteI v (k - 1 - i)
/-- A number's form. -/
def numB (v : Int) : List Int := firstB v (oth v) :: restB v (oth v) (oth v)
theorem restB_succ (v : Int) (k j : Nat) : restB v k (j + 1) = restB v k j ++ [byteI v (k - 1 - j)] := by
  unfold restB; rw [List.range_succ, List.map_append]; rfl
theorem restB_length (v : Int) (k j : Nat) : (restB v k j).length = j := by simp [restB]
theorem numB_length (v : Int) : (numB v).length = 1 + oth v := by simp [numB, restB]; omega
theorem byte_shift (v : Int) (s : Int) (j : Nat) (h : s = 8 * (j : Int)) : IntKind.u8.wrap (v / 2 ^ s.toNat) = byteI v j := by
  subst h
  rw [IntKind.wrap_u8]
  unfold byteI
  have e : (8 * (j : Int)).toNat = 8 * j := by omega
  have e2 : ((256 ^ j : Nat) : Int) = 2 ^ (8 * j) := by
    rw [show (256 : Nat) = 2 ^ 8 from rfl, ← Nat.pow_mul]; simp
  rw [e, e2]
theorem or_u8_join (a b : Int) (s : Nat) (ha : 0 ≤ a) (ha' : a < 256) (hm : a % ((2 ^ s : Nat) : Int) = 0) (hb : 0 ≤ b) (hb' : b < ((2 ^ s : Nat) : Int)) (hb'' : b < 256) : bits .or .u8 a b = a + b := by
  rw [u8_or a b ha ha' hb hb'']
  obtain ⟨n, rfl⟩ : ∃ n : Nat, a = n := ⟨a.toNat, by omega⟩
  obtain ⟨m, rfl⟩ : ∃ m : Nat, b = m := ⟨b.toNat, by omega⟩
  have hm' : n % 2 ^ s = 0 := by
    have h : ((n % 2 ^ s : Nat) : Int) = 0 := by rw [Int.natCast_emod]; exact hm
    exact Int.natCast_eq_zero.mp h
  have hb3 : m < 2 ^ s := Int.ofNat_lt.mp hb'
  have h := nat_join s n m hm' hb3
  rw [Int.toNat_natCast, Int.toNat_natCast, h, Int.natCast_add]
theorem first_bits (x : Int) (h0 : 0 ≤ x) (h1 : x ≤ 18446744073709551615) :
    bits .or .u8 (bits .xor .u8 IntKind.u8.max (255 / 2 ^ oth x)) (IntKind.u8.wrap (x / 2 ^ (8 * (oth x : Int)).toNat)) = firstB x (oth x) := by
  rw [byte_shift x _ (oth x) rfl]
  have hk := oth_le x
  have he : ∀ k, oth x = k → bits .or .u8 (bits .xor .u8 IntKind.u8.max (255 / 2 ^ k)) (byteI x k) = firstB x k := by
    intro k hk'
    have hs := fun h => oth_end x k hk' h
    obtain rfl | rfl | rfl | rfl | rfl | rfl | rfl | rfl | rfl : k = 0 ∨ k = 1 ∨ k = 2 ∨ k = 3 ∨ k = 4 ∨ k = 5 ∨ k = 6 ∨ k = 7 ∨ k = 8 := by omega
    all_goals
      try replace hs := hs (by decide)
      simp at hs
      unfold byteI firstB
      simp only [Nat.reducePow, Nat.reduceSub]
    · rw [show bits .xor .u8 IntKind.u8.max (255 / 2 ^ 0) = 0 from by decide, or_u8_join 0 _ 7 (by omega) (by omega) (by omega) (by omega) (by simp; omega) (by omega)]; omega
    · rw [show bits .xor .u8 IntKind.u8.max (255 / 2 ^ 1) = 128 from by decide, or_u8_join 128 _ 6 (by omega) (by omega) (by decide) (by omega) (by simp; omega) (by omega)]; omega
    · rw [show bits .xor .u8 IntKind.u8.max (255 / 2 ^ 2) = 192 from by decide, or_u8_join 192 _ 5 (by omega) (by omega) (by decide) (by omega) (by simp; omega) (by omega)]; omega
    · rw [show bits .xor .u8 IntKind.u8.max (255 / 2 ^ 3) = 224 from by decide, or_u8_join 224 _ 4 (by omega) (by omega) (by decide) (by omega) (by simp; omega) (by omega)]; omega
    · rw [show bits .xor .u8 IntKind.u8.max (255 / 2 ^ 4) = 240 from by decide, or_u8_join 240 _ 3 (by omega) (by omega) (by decide) (by omega) (by simp; omega) (by omega)]; omega
    · rw [show bits .xor .u8 IntKind.u8.max (255 / 2 ^ 5) = 248 from by decide, or_u8_join 248 _ 2 (by omega) (by omega) (by decide) (by omega) (by simp; omega) (by omega)]; omega
    · rw [show bits .xor .u8 IntKind.u8.max (255 / 2 ^ 6) = 252 from by decide, or_u8_join 252 _ 1 (by omega) (by omega) (by decide) (by omega) (by simp; omega) (by omega)]; omega
    · rw [show bits .xor .u8 IntKind.u8.max (255 / 2 ^ 7) = 254 from by decide, or_u8_join 254 _ 0 (by omega) (by omega) (by decide) (by omega) (by simp; omega) (by omega)]; omega
    · rw [show bits .xor .u8 IntKind.u8.max (255 / 2 ^ 8) = 255 from by decide, or_u8_join 255 _ 0 (by omega) (by omega) (by decide) (by omega) (by simp; omega) (by omega)]; omega
  exact he _ rfl
end Go.Proofs.Ytkidbbmdlmnokaa
