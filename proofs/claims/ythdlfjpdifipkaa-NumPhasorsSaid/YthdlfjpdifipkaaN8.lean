/- The document's sum is the float's, plainly. -/
import Derived.Test.YthdlfjpdifipkaaN7
namespace Go.Proofs.Ythdlfjpdifipkaa

theorem word_eq (neg : Bool) (r : Nat) : Ieee.double.word neg r = if neg = true then 9223372036854775808 + r else r := by
  have hs : Ieee.double.signWeight = 9223372036854775808 := by decide
  unfold Ieee.Format.word
  rw [hs]
/-- The document's sum of finite floats, of which the first has the greater exponent. -/
def finAdd (s : Bool) (m e : Nat) (t : Bool) (n f : Nat) : Nat :=
  if s = t then Ieee.double.word s (roundN (8 * m + shN (e - f) (8 * n)) e)
  else if shN (e - f) (8 * n) ≤ 8 * m then Ieee.double.word (s && decide (shN (e - f) (8 * n) < 8 * m)) (roundN (8 * m - shN (e - f) (8 * n)) e)
  else Ieee.double.word t (roundN (shN (e - f) (8 * n) - 8 * m) e)
theorem nearest_zero (neg : Bool) (p : Int) : Ieee.double.nearest neg 0 p = Ieee.double.word neg 0 := by
  unfold Ieee.Format.nearest; rw [if_pos rfl]
theorem roundN_zero (e : Nat) : roundN 0 e = 0 := by unfold roundN; rw [if_pos rfl]

theorem sum_fin (s : Bool) (m e : Nat) (t : Bool) (n f : Nat) (hm : m < 9007199254740992) (hn : n < 9007199254740992) (he : e ≤ 2047) (hf : 1 ≤ f) (hef : f ≤ e) (hmh : 4503599627370496 ≤ m ∨ e = 1) :
    ((Ieee.Datum.number s m ((e : Int) - 1075)).sum (Ieee.Datum.number t n ((f : Int) - 1075))).map Ieee.double.write = some (finAdd s m e t n f) := by
  simp only [Ieee.Datum.sum, Option.map_some, Ieee.Format.write]
  congr 1
  have hmin : min ((e : Int) - 1075) ((f : Int) - 1075) = (f : Int) - 1075 := by omega
  rw [hmin]
  have h1 : (((e : Int) - 1075) - ((f : Int) - 1075)).toNat = e - f := by omega
  have h2 : (((f : Int) - 1075) - ((f : Int) - 1075)).toNat = 0 := by omega
  have h3 : ((f : Int) - 1075) = (((f + 3 : Nat) : Int) - 1078) := by omega
  rw [h1, h2, h3]
  unfold Ieee.signed finAdd
  simp only [Nat.shiftLeft_eq, Nat.pow_zero, Nat.mul_one]
  obtain ⟨A, hA⟩ : ∃ A, A = m * 2 ^ (e - f) := ⟨_, rfl⟩
  have hp := Nat.two_pow_pos (e - f)
  have hA0 : A = 0 ↔ m = 0 := by
    rw [hA]
    constructor
    · intro h
      rcases Nat.eq_zero_or_pos m with h4 | h4
      · exact h4
      · have := Nat.mul_pos h4 hp; omega
    · rintro rfl; simp
  have hadd := near_add m e n f hm hn he hf hef hmh
  have hsub := near_sub m e n f hm hn he hf hef hmh
  have hord := sub_order m e n f hm hn he hf hef hmh
  rw [← hA] at hadd hsub hord ⊢
  obtain ⟨Y, hY⟩ : ∃ Y, Y = shN (e - f) (8 * n) := ⟨_, rfl⟩
  have hY0 : n = 0 → Y = 0 := by
    rintro rfl
    have h5 : ∀ k, shN k 0 = 0 := by intro k; cases k <;> simp [shN]
    rw [hY]; exact h5 _
  rw [← hY] at hadd hsub hord ⊢
  by_cases hst : s = t
  · subst hst
    rw [if_pos rfl]
    by_cases h0 : 0 < m ∨ 0 < n
    · obtain ⟨ha, hb⟩ := hadd h0
      have hpos : 0 < A + n := by
        rcases h0 with h | h
        · have : A ≠ 0 := fun x => by have := hA0.1 x; omega
          omega
        · omega
      cases s with
      | false =>
        have e1 : ((if (false : Bool) = true then -(A : Int) else (A : Int)) + (if (false : Bool) = true then -(n : Int) else (n : Int))) = ((A + n : Nat) : Int) := by simp
        rw [e1, if_neg (by omega), Int.natAbs_natCast, nearest_nearX _ _ _ hpos, ha]
        congr 1 <;> exact decide_eq_false (by omega)
      | true =>
        have e1 : ((if (true : Bool) = true then -(A : Int) else (A : Int)) + (if (true : Bool) = true then -(n : Int) else (n : Int))) = -((A + n : Nat) : Int) := by first | (simp; done) | (simp; omega)
        rw [e1, if_neg (by omega), Int.natAbs_neg, Int.natAbs_natCast, nearest_nearX _ _ _ hpos, ha]
        congr 1 <;> exact decide_eq_true (by omega)
    · have hm0 : m = 0 := by omega
      have hn0 : n = 0 := by omega
      have hAA := hA0.2 hm0
      have hYY := hY0 hn0
      rw [hAA, hYY, hn0, hm0]
      cases s <;> simp [nearest_zero, roundN_zero]
  · rw [if_neg hst]
    by_cases hgt : n < A
    · obtain ⟨ha, hb⟩ := hsub hgt
      have hR : (if Y ≤ 8 * m then Ieee.double.word (s && decide (Y < 8 * m)) (roundN (8 * m - Y) e) else Ieee.double.word t (roundN (Y - 8 * m) e)) = Ieee.double.word s (roundN (8 * m - Y) e) := by
        rw [if_pos (by omega), decide_eq_true hb, Bool.and_true]
      rw [hR]
      clear hR
      have hpos : 0 < A - n := by omega
      cases s <;> cases t <;> first | exact absurd rfl hst | skip
      · have e1 : ((if (false : Bool) = true then -(A : Int) else (A : Int)) + (if (true : Bool) = true then -(n : Int) else (n : Int))) = ((A - n : Nat) : Int) := by first | (simp; done) | (simp; omega)
        rw [e1, if_neg (by omega), Int.natAbs_natCast, nearest_nearX _ _ _ hpos, ha]
        congr 1 <;> exact decide_eq_false (by omega)
      · have e1 : ((if (true : Bool) = true then -(A : Int) else (A : Int)) + (if (false : Bool) = true then -(n : Int) else (n : Int))) = -((A - n : Nat) : Int) := by first | (simp; done) | (simp; omega)
        rw [e1, if_neg (by omega), Int.natAbs_neg, Int.natAbs_natCast, nearest_nearX _ _ _ hpos, ha]
        congr 1 <;> exact decide_eq_true (by omega)
    · obtain ⟨hd, hYn, hAm⟩ := hord.resolve_right (fun x => hgt x.2.2)
      by_cases heq : A = n
      · have hR : (if Y ≤ 8 * m then Ieee.double.word (s && decide (Y < 8 * m)) (roundN (8 * m - Y) e) else Ieee.double.word t (roundN (Y - 8 * m) e)) = Ieee.double.word false 0 := by
          rw [if_pos (by omega), decide_eq_false (by omega), Bool.and_false, show 8 * m - Y = 0 by omega, roundN_zero]
        rw [hR, heq]
        cases s <;> cases t <;> first | exact absurd rfl hst | simp [nearest_zero, Int.add_right_neg, Int.add_left_neg]
      · have hR : (if Y ≤ 8 * m then Ieee.double.word (s && decide (Y < 8 * m)) (roundN (8 * m - Y) e) else Ieee.double.word t (roundN (Y - 8 * m) e)) = Ieee.double.word t (roundN (Y - 8 * m) e) := by
          rw [if_neg (by omega)]
        rw [hR]
        clear hR
        have hpos : 0 < n - A := by omega
        have hfe : f = e := by omega
        have h6 := near_sub n e m e hn hm he (by omega) (by omega) (by
          rcases hmh with h | h
          · left; omega
          · right; exact h)
        rw [Nat.sub_self, Nat.pow_zero, Nat.mul_one] at h6
        simp only [shN] at h6
        obtain ⟨ha, hb⟩ := h6 (by omega)
        have hYA : Y - 8 * m = 8 * n - 8 * m := by omega
        rw [hYA, ← ha, hfe, hAm]
        cases s <;> cases t <;> first | exact absurd rfl hst | skip
        · have e1 : ((if (false : Bool) = true then -(m : Int) else (m : Int)) + (if (true : Bool) = true then -(n : Int) else (n : Int))) = -((n - m : Nat) : Int) := by first | (simp; done) | (simp; omega)
          rw [e1, if_neg (by omega), Int.natAbs_neg, Int.natAbs_natCast, nearest_nearX _ _ _ (by omega)]
          congr 1 <;> exact decide_eq_true (by omega)
        · have e1 : ((if (true : Bool) = true then -(m : Int) else (m : Int)) + (if (false : Bool) = true then -(n : Int) else (n : Int))) = ((n - m : Nat) : Int) := by first | (simp; done) | (simp; omega)
          rw [e1, if_neg (by omega), Int.natAbs_natCast, nearest_nearX _ _ _ (by omega)]
          congr 1 <;> exact decide_eq_false (by omega)
end Go.Proofs.Ythdlfjpdifipkaa
