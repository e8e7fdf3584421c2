/- Plain facts on numbers as bytes, read. -/
import Derived.Test.YtkidbbmdlmnokaaL1
import Derived.Lib.Strings
import Derived.Shelf.Small.Bits
namespace Go.Proofs.Ytkidbbmdlmnokaa
open Go.RowKit
/-- How many bits from the top on are set in a byte. -/
def lo (b : Int) : Nat := 8 - Lib.bitLen (255 - b).toNat
/-- The bits behind the first one that isn't set. -/
def topV (b : Int) (k : Nat) : Int := b % ((2 ^ (7 - k) : Nat) : Int)
def bigV (a : Int) (bs : List Int) : Int := bs.foldl (fun v b => v * 256 + b) a
/-- What is read at place t: the number, how many bytes it has, the error. -/
def lookF (l : List Int) (t : Nat) : Int × Nat × Int :=
  if l.length ≤ t then (0, 0, 2) else
  if l.length - t ≤ lo (l.getD t 0) then (0, 0, 2) else
  if oth (bigV (topV (l.getD t 0) (lo (l.getD t 0))) ((l.drop (t + 1)).take (lo (l.getD t 0)))) < lo (l.getD t 0) then (0, 0, 3) else
  (bigV (topV (l.getD t 0) (lo (l.getD t 0))) ((l.drop (t + 1)).take (lo (l.getD t 0))), 1 + lo (l.getD t 0), 0)

theorem lo_le (b : Int) : lo b ≤ 8 := by unfold lo; omega
theorem lo_eq (b : Int) (h0 : 0 ≤ b) (h1 : b < 256) : (8 - (Lib.bitLen (255 - b).toNat : Int)) = (lo b : Int) := by
  have l := Lib.bitLen_le8 ⟨(255 - b).toNat, by omega⟩
  simp only at l
  unfold lo; omega
theorem xor_u8_max (b : Int) (h0 : 0 ≤ b) (h1 : b < 256) : bits .xor .u8 IntKind.u8.max b = 255 - b := by
  obtain ⟨n, rfl⟩ : ∃ n : Nat, b = n := ⟨b.toNat, by omega⟩
  have hn : n < 2 ^ 8 := by omega
  have h := u8_xor_nat 255 n (by omega) (by omega)
  have e : 255 ^^^ n = 255 - n := by
    have b := congrArg BitVec.toNat (BitVec.xor_allOnes (x := BitVec.ofNat 8 n))
    rw [Nat.xor_comm]
    simpa [BitVec.toNat_xor, BitVec.toNat_allOnes, BitVec.toNat_not, Nat.mod_eq_of_lt hn] using b
  rw [e] at h
  have : ((255 - n : Nat) : Int) = 255 - (n : Int) := by omega
  rw [this] at h
  exact h
theorem and_top (b : Int) (k : Nat) (h0 : 0 ≤ b) (h1 : b < 256) (hk : k ≤ 8) : bits .and .u8 b (127 / 2 ^ k) = topV b k := by
  obtain ⟨n, rfl⟩ : ∃ n : Nat, b = n := ⟨b.toNat, by omega⟩
  have e : ∀ j : Nat, (127 : Int) / 2 ^ j = ((127 / 2 ^ j : Nat) : Int) := fun j => by simp
  have hlt : 127 / 2 ^ k < 256 := Nat.lt_of_le_of_lt (Nat.div_le_self _ _) (by omega)
  rw [e, u8_and_nat n _ (by omega) hlt]
  unfold topV
  have : n &&& 127 / 2 ^ k = n % 2 ^ (7 - k) := by
    obtain rfl | rfl | rfl | rfl | rfl | rfl | rfl | rfl | rfl : k = 0 ∨ k = 1 ∨ k = 2 ∨ k = 3 ∨ k = 4 ∨ k = 5 ∨ k = 6 ∨ k = 7 ∨ k = 8 := by omega
    · exact Nat.and_two_pow_sub_one_eq_mod n 7
    · exact Nat.and_two_pow_sub_one_eq_mod n 6
    · exact Nat.and_two_pow_sub_one_eq_mod n 5
    · exact Nat.and_two_pow_sub_one_eq_mod n 4
    · exact Nat.and_two_pow_sub_one_eq_mod n 3
    · exact Nat.and_two_pow_sub_one_eq_mod n 2
    · exact Nat.and_two_pow_sub_one_eq_mod n 1
    · exact Nat.and_two_pow_sub_one_eq_mod n 0
    · exact Nat.and_two_pow_sub_one_eq_mod n 0
  rw [this, Int.natCast_emod]
theorem topV_range (b : Int) (k : Nat) : 0 ≤ topV b k ∧ topV b k < ((2 ^ (7 - k) : Nat) : Int) := by
  have h : (0 : Int) < ((2 ^ (7 - k) : Nat) : Int) := by have := Nat.two_pow_pos (7 - k); omega
  exact ⟨Int.emod_nonneg _ (by omega), Int.emod_lt_of_pos _ h⟩
theorem bigV_snoc (a : Int) (bs : List Int) (x : Int) : bigV a (bs ++ [x]) = bigV a bs * 256 + x := by simp [bigV]
theorem bigV_range (a : Int) (m : Nat) (h0 : 0 ≤ a) (h1 : a < ((2 ^ m : Nat) : Int)) (bs : List Int) (hb : ∀ x ∈ bs, 0 ≤ x ∧ x < 256) : 0 ≤ bigV a bs ∧ bigV a bs < ((2 ^ (m + 8 * bs.length) : Nat) : Int) := by
  induction bs generalizing a m with
  | nil => exact ⟨h0, h1⟩
  | cons y r ih =>
    have hy := hb y (by simp)
    have h := ih (a * 256 + y) (m + 8) (by omega) (by rw [Nat.pow_add]; omega) (fun x hx => hb x (by simp [hx]))
    have e : m + 8 * (y :: r).length = m + 8 + 8 * r.length := by simp only [List.length_cons]; omega
    rw [e]
    exact h
theorem shl8 (v : Int) (h0 : 0 ≤ v) (h1 : v < 72057594037927936) : IntKind.u64.wrap (v * 256) = v * 256 := wrap_u64_of _ (by omega) (by omega)
theorem or_byte (v c : Int) (h0 : 0 ≤ v) (h1 : v < 72057594037927936) (h2 : 0 ≤ c) (h3 : c < 256) : bits .or .u64 (v * 256) c = v * 256 + c := by
  rw [u64_or _ _ (by omega) (by omega) h2 (by omega)]
  rw [nat_join 8 (v * 256).toNat c.toNat (by omega) (by omega)]
  omega
/-- What is read after j of k bytes stays below 2^56 as long as one more comes. -/
theorem bigV_small (b : Int) (k j : Nat) (bs : List Int) (hk : k ≤ 8) (hj : j < k) (hl : bs.length = j) (hb : ∀ x ∈ bs, 0 ≤ x ∧ x < 256) : 0 ≤ bigV (topV b k) bs ∧ bigV (topV b k) bs < 72057594037927936 := by
  have ht := topV_range b k
  have h := bigV_range (topV b k) (7 - k) ht.1 ht.2 bs hb
  refine ⟨h.1, Int.lt_of_lt_of_le h.2 ?_⟩
  have : 2 ^ (7 - k + 8 * bs.length) ≤ 2 ^ 56 := Nat.pow_le_pow_right (by omega) (by omega)
  have e : (2 : Nat) ^ 56 = 72057594037927936 := rfl
  rw [e] at this
  omega
theorem bigV_u64 (b : Int) (k : Nat) (bs : List Int) (hk : k ≤ 8) (hl : bs.length ≤ k) (hb : ∀ x ∈ bs, 0 ≤ x ∧ x < 256) : 0 ≤ bigV (topV b k) bs ∧ bigV (topV b k) bs ≤ 18446744073709551615 := by
  have ht := topV_range b k
  have h := bigV_range (topV b k) (7 - k) ht.1 ht.2 bs hb
  refine ⟨h.1, ?_⟩
  have : 2 ^ (7 - k + 8 * bs.length) ≤ 2 ^ 64 := Nat.pow_le_pow_right (by omega) (by omega)
  have e : (2 : Nat) ^ 64 = 18446744073709551616 := rfl
  rw [e] at this
  omega
end Go.Proofs.Ytkidbbmdlmnokaa
