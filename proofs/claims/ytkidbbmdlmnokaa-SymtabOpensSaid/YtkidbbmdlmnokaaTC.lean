/- Layer 34: bounds of what a reader takes. -/
import Derived.Test.YtkidbbmdlmnokaaTB
namespace Go.Proofs.Ytkidbbmdlmnokaa
open Go.RowKit
theorem countF_range (l : List Int) (t : Nat) (e most : Int) (hb : ∀ x ∈ l, 0 ≤ x ∧ x < 256) (h0 : 0 ≤ most) : 0 ≤ (countF l t e most).1 ∧ (countF l t e most).1 ≤ most := by
  unfold countF
  split
  · exact ⟨by decide, h0⟩
  · rename_i h
    obtain ⟨r, hr⟩ : ∃ r, r = lookE l t e := ⟨_, rfl⟩
    obtain ⟨v, n, e1⟩ := r
    rw [← hr] at h ⊢
    simp only at h ⊢
    by_cases he : e1 = 0
    · subst he
      have := lookE_num hb hr.symm
      omega
    · have := lookE_fault hr.symm he
      omega
theorem countF_taken (l : List Int) (t : Nat) (e most : Int) (ht : t ≤ l.length) : t + (countF l t e most).2.1 ≤ l.length := by
  unfold countF
  split
  · simpa using ht
  · exact lookE_taken l t e ht
theorem countF_nat (l : List Int) (t : Nat) (e most : Int) (hb : ∀ x ∈ l, 0 ≤ x ∧ x < 256) (h0 : 0 ≤ most) : ∃ n : Nat, (countF l t e most).1 = (n : Int) ∧ (n : Int) ≤ most := by
  have := countF_range l t e most hb h0
  exact ⟨(countF l t e most).1.toNat, by omega, by omega⟩
theorem textF_len (l : List Int) (t : Nat) (e most : Int) (hb : ∀ x ∈ l, 0 ≤ x ∧ x < 256) (h0 : 0 ≤ most) : ((textF l t e most).1.length : Int) ≤ most := by
  have hc := countF_range l t e most hb h0
  obtain ⟨c, hcc⟩ : ∃ c, c = countF l t e most := ⟨_, rfl⟩
  unfold textF
  rw [← hcc] at hc ⊢
  split
  · simpa using h0
  · simp only
    unfold nextF
    split
    · simpa using h0
    · split
      · simpa using h0
      · split
        · simpa using h0
        · simp only [List.length_take]; omega
theorem textF_taken (l : List Int) (t : Nat) (e most : Int) (ht : t ≤ l.length) : t + (textF l t e most).2.1 ≤ l.length := by
  have h1 := countF_taken l t e most ht
  have h2 := nextF_taken l (t + (countF l t e most).2.1) (countF l t e most).2.2 (countF l t e most).1 h1
  unfold textF
  split
  · simpa using ht
  · simp only; omega
theorem nxtS_size (i : Nat) (a : ByteArray) (n : Nat) (x : ByteArray) (e : Int) : (nxtS i a n x e).1.size ≤ 400 := by
  unfold nxtS
  split
  · simp
  · split
    · simp
    · split
      · simp
      · split
        · simp
        · split
          · simp
          · simp only; omega
end Go.Proofs.Ytkidbbmdlmnokaa
