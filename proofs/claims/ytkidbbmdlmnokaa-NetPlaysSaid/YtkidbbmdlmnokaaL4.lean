/- Plain facts on numbers as bytes, more. -/
import Derived.Test.YtkidbbmdlmnokaaL2
namespace Go.Proofs.Ytkidbbmdlmnokaa
open Go.RowKit
theorem lo_ones_aux : ∀ b : Fin 256, ∀ j : Fin 8, (j.val < lo (b.val : Int) → b.val / 2 ^ (7 - j.val) % 2 = 1) ∧ (j.val = lo (b.val : Int) → b.val / 2 ^ (7 - j.val) % 2 = 0) := by decide +kernel
theorem lo_ones (b : Int) (j : Nat) (h0 : 0 ≤ b) (h1 : b < 256) (hj : j < 8) :
    (j < lo b → b / ((2 ^ (7 - j) : Nat) : Int) % 2 = 1) ∧ (j = lo b → b / ((2 ^ (7 - j) : Nat) : Int) % 2 = 0) := by
  obtain ⟨n, rfl⟩ : ∃ n : Nat, b = n := ⟨b.toNat, by omega⟩
  have h := lo_ones_aux ⟨n, by omega⟩ ⟨j, hj⟩
  simp only at h
  have e : (n : Int) / ((2 ^ (7 - j) : Nat) : Int) % 2 = ((n / 2 ^ (7 - j) % 2 : Nat) : Int) := by
    rw [Int.natCast_emod, Int.natCast_ediv]; rfl
  rw [e]
  exact ⟨fun x => by rw [h.1 x]; rfl, fun x => by rw [h.2 x]; rfl⟩
theorem oth_of_lt (v : Int) (k : Nat) (hk : k < 8) (h : v < ((2 ^ (7 + 7 * k) : Nat) : Int)) : oth v ≤ k := by
  unfold oth
  obtain rfl | rfl | rfl | rfl | rfl | rfl | rfl | rfl : k = 0 ∨ k = 1 ∨ k = 2 ∨ k = 3 ∨ k = 4 ∨ k = 5 ∨ k = 6 ∨ k = 7 := by omega
  all_goals
    simp at h
    (repeat' split) <;> omega
theorem oth_big (b : Int) (k : Nat) (bs : List Int) (hk : k ≤ 8) (hl : bs.length = k) (hb : ∀ x ∈ bs, 0 ≤ x ∧ x < 256) : oth (bigV (topV b k) bs) ≤ k := by
  by_cases h8 : k = 8
  · rw [h8]; exact oth_le _
  · have ht := topV_range b k
    have h := bigV_range (topV b k) (7 - k) ht.1 ht.2 bs hb
    have e : 7 - k + 8 * bs.length = 7 + 7 * k := by omega
    rw [e] at h
    exact oth_of_lt _ k (by omega) h.2
theorem bigV_one (a x : Int) : bigV a [x] = a * 256 + x := rfl
end Go.Proofs.Ytkidbbmdlmnokaa
