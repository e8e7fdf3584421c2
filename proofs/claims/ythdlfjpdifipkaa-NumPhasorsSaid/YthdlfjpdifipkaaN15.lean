/- Phasors, plainly; sums of complex numbers. -/
import Derived.Test.YthdlfjpdifipkaaN10
import Derived.Laws.ComplexArith
namespace Go.Proofs.Ythdlfjpdifipkaa

theorem odd_minus (x : Int) (h0 : 0 ≤ x) (h1 : x ≤ 18446744073709551615) : oddI (minusI x) = oddI x := by
  unfold oddI minusI
  rw [decide_eq_decide]
  split <;> omega
theorem minus_minus (x : Int) (h0 : 0 ≤ x) (h1 : x ≤ 18446744073709551615) : minusI (minusI x) = x := by
  unfold minusI
  split <;> split <;> omega
theorem canon_mm (x : Int) (h0 : 0 ≤ x) (h1 : x ≤ 18446744073709551615) : canonI (minusI (canonI (minusI x))) = canonI x := by
  have hm := minusI_range x h0 h1
  by_cases h : oddI x = true
  · have h2 : oddI (minusI x) = true := by rw [odd_minus x h0 h1]; exact h
    have e1 : canonI (minusI x) = 9221120237041090561 := if_pos h2
    have e2 : canonI x = 9221120237041090561 := if_pos h
    rw [e1, e2]; decide
  · have h2 : ¬ oddI (minusI x) = true := by rw [odd_minus x h0 h1]; exact h
    have e1 : canonI (minusI x) = minusI x := if_neg h2
    rw [e1, minus_minus x h0 h1]
theorem addI_odd (a b : Int) (a0 : 0 ≤ a) (a1 : a ≤ 18446744073709551615) (b0 : 0 ≤ b) (b1 : b ≤ 18446744073709551615) (h : oddI a = true ∨ oddI b = true) : addI a b = 9221120237041090561 := by
  obtain ⟨x, rfl⟩ : ∃ x : Nat, a = x := ⟨a.toNat, by omega⟩
  obtain ⟨y, rfl⟩ : ∃ y : Nat, b = y := ⟨b.toNat, by omega⟩
  rw [add_ref x y (by omega) (by omega)]
  unfold refAddN; rw [if_pos h]; rfl
theorem addI_canon (a b : Int) (a0 : 0 ≤ a) (a1 : a ≤ 18446744073709551615) (b0 : 0 ≤ b) (b1 : b ≤ 18446744073709551615) : addI (canonI a) (canonI b) = addI a b := by
  have ra := canonI_range a a0 a1
  have rb := canonI_range b b0 b1
  by_cases h : oddI a = true ∨ oddI b = true
  · rw [addI_odd a b a0 a1 b0 b1 h]
    refine addI_odd _ _ ra.1 ra.2 rb.1 rb.2 ?_
    rcases h with h | h
    · left; rw [show canonI a = 9221120237041090561 from if_pos h]; decide
    · right; rw [show canonI b = 9221120237041090561 from if_pos h]; decide
  · rw [show canonI a = a from if_neg (fun x => h (.inl x)), show canonI b = b from if_neg (fun x => h (.inr x))]
theorem canon_addI (a b : Int) : canonI (addI a b) = addI a b := by
  unfold addI
  cases floatBits .add .f64 a.toNat b.toNat with
  | none => decide
  | some r => exact canonI_canonI r
theorem minus_word (neg : Bool) (r : Nat) (h : r ≤ 9218868437227405312) : minusI ((Ieee.double.word neg r : Nat) : Int) = ((Ieee.double.word (!neg) r : Nat) : Int) := by
  rw [word_eq, word_eq]
  unfold minusI
  cases neg with
  | true =>
    have e1 : (if (true : Bool) = true then 9223372036854775808 + r else r) = 9223372036854775808 + r := if_pos rfl
    have e2 : (if (!true : Bool) = true then 9223372036854775808 + r else r) = r := if_neg (by decide)
    rw [e1, e2, if_neg (by omega)]; omega
  | false =>
    have e1 : (if (false : Bool) = true then 9223372036854775808 + r else r) = r := if_neg (by decide)
    have e2 : (if (!false : Bool) = true then 9223372036854775808 + r else r) = 9223372036854775808 + r := if_pos rfl
    rw [e1, e2, if_pos (by omega)]; omega
theorem nearest_both (neg : Bool) (m : Nat) (p : Int) : ∃ r, r ≤ 9218868437227405312 ∧ Ieee.double.nearest neg m p = Ieee.double.word neg r ∧ Ieee.double.nearest (!neg) m p = Ieee.double.word (!neg) r := by
  have hi : Ieee.double.infRung = 9218868437227405312 := by decide
  unfold Ieee.Format.nearest
  by_cases h : m = 0
  · rw [if_pos h, if_pos h]; exact ⟨0, by omega, rfl, rfl⟩
  · rw [if_neg h, if_neg h]
    simp only [cut_even]
    refine ⟨_, ?_, rfl, rfl⟩
    rw [hi]; exact Nat.min_le_right _ _
theorem signed_not (s : Bool) (m k : Nat) : Ieee.signed (!s) m k = - Ieee.signed s m k := by
  unfold Ieee.signed; cases s <;> simp
/-- What is answered of a sum of data. -/
def sumI (x y : Ieee.Datum) : Int := match (x.sum y).map Ieee.double.write with | some r => canonI (r : Int) | none => 9221120237041090561
theorem sum_opp (x y : Ieee.Datum) (h : sumI x y % 9223372036854775808 ≠ 0) : sumI x.opposite y.opposite = canonI (minusI (sumI x y)) := by
  have hi : Ieee.double.infRung = 9218868437227405312 := by decide
  have hodd : canonI (minusI 9221120237041090561) = 9221120237041090561 := by decide
  have hinf : ∀ s : Bool, canonI ((Ieee.double.word (!s) 9218868437227405312 : Nat) : Int) = canonI (minusI (canonI ((Ieee.double.word s 9218868437227405312 : Nat) : Int))) := fun s => by
    rw [canon_word s _ (by omega), minus_word s _ (by omega)]
  unfold sumI at h ⊢
  cases x with
  | nan s t => cases y <;> simp only [Ieee.Datum.opposite, Ieee.Datum.sum, Option.map_none] <;> exact hodd.symm
  | infinity s =>
    cases y with
    | nan t u => simp only [Ieee.Datum.opposite, Ieee.Datum.sum, Option.map_none]; exact hodd.symm
    | infinity t =>
      by_cases hst : s = t
      · subst hst
        simp only [Ieee.Datum.opposite, Ieee.Datum.sum, if_true, Option.map_some, Ieee.Format.write, hi]
        exact hinf s
      · have h2 : ¬ (!s) = (!t) := by cases s <;> cases t <;> simp_all
        simp only [Ieee.Datum.opposite, Ieee.Datum.sum, if_neg hst, if_neg h2, Option.map_none]
        exact hodd.symm
    | number t m p =>
      simp only [Ieee.Datum.opposite, Ieee.Datum.sum, Option.map_some, Ieee.Format.write, hi]
      exact hinf s
  | number s m p =>
    cases y with
    | nan t u => simp only [Ieee.Datum.opposite, Ieee.Datum.sum, Option.map_none]; exact hodd.symm
    | infinity t =>
      simp only [Ieee.Datum.opposite, Ieee.Datum.sum, Option.map_some, Ieee.Format.write, hi]
      exact hinf t
    | number t n q =>
      simp only [Ieee.Datum.opposite, Ieee.Datum.sum, Option.map_some, Ieee.Format.write, signed_not] at h ⊢
      generalize Ieee.signed s m (p - min p q).toNat = A at *
      generalize Ieee.signed t n (q - min p q).toNat = B at *
      by_cases hz : A + B = 0
      · exfalso
        rw [if_pos hz, hz, Int.natAbs_zero, nearest_zero, canon_word _ _ (by omega), word_eq] at h
        apply h
        split <;> decide
      · rw [if_neg (show ¬ (-A + -B = 0) by omega), if_neg hz]
        have e1 : (-A + -B).natAbs = (A + B).natAbs := by omega
        have e2 : decide (-A + -B < 0) = !decide (A + B < 0) := by
          by_cases h3 : A + B < 0
          · rw [decide_eq_true h3, decide_eq_false (by omega)]; rfl
          · rw [decide_eq_false h3, decide_eq_true (by omega)]; rfl
        rw [e1, e2]
        obtain ⟨r, hr, r1, r2⟩ := nearest_both (decide (A + B < 0)) (A + B).natAbs (min p q)
        rw [r1, r2, canon_word _ r hr, canon_word _ r hr, minus_word _ r hr, canon_word _ r hr]
theorem addI_sumI (a b : Nat) : addI (a : Int) (b : Int) = sumI (Ieee.double.read a) (Ieee.double.read b) := addI_sum a b
theorem addI_minus (a b : Int) (a0 : 0 ≤ a) (a1 : a ≤ 18446744073709551615) (b0 : 0 ≤ b) (b1 : b ≤ 18446744073709551615) (h : addI a b % 9223372036854775808 ≠ 0) : addI (minusI a) (minusI b) = canonI (minusI (addI a b)) := by
  obtain ⟨x, rfl⟩ : ∃ x : Nat, a = x := ⟨a.toNat, by omega⟩
  obtain ⟨y, rfl⟩ : ∃ y : Nat, b = y := ⟨b.toNat, by omega⟩
  have e : ∀ z : Nat, z < 18446744073709551616 → minusI (z : Int) = ((if z < 9223372036854775808 then z + 9223372036854775808 else z - 9223372036854775808 : Nat) : Int) := fun z hz => by
    unfold minusI; split <;> split <;> omega
  rw [e x (by omega), e y (by omega), addI_sumI, addI_sumI, read_opposite x (by omega), read_opposite y (by omega)]
  rw [addI_sumI] at h
  exact sum_opp _ _ h

section
variable {P : Program} (w : World)
theorem run_carith_any (x y : Nat) : ∃ r q, (Op.Complex.arith .add .f64 x y).run P w = .ok r (w.drewN q) ∧ canonI (r : Int) = addI x y ∧ (r : Int) ≤ 18446744073709551615 := by
  cases h : floatBits .add .f64 x y with
  | some r => exact ⟨r, 0, run_carith w h, by unfold addI; rw [Int.toNat_natCast, Int.toNat_natCast, h], bits_lt h⟩
  | none =>
    refine ⟨nanOf w x y, 1, ?_, ?_, (nanOf_odd w x y).2⟩
    · unfold floatBits at h
      simp [Op.Complex.arith, Op.floatArith, h, Question.forced, nanOf]
      rfl
    · unfold addI
      rw [Int.toNat_natCast, Int.toNat_natCast, h]
      exact if_pos (nanOf_odd w x y).1
theorem run_carith_sub (x y : Nat) : ∃ r q, (Op.Complex.arith .sub .f64 x y).run P w = .ok r (w.drewN q) ∧ canonI (r : Int) = subI x y ∧ (r : Int) ≤ 18446744073709551615 := by
  cases h : floatBits .sub .f64 x y with
  | some r => exact ⟨r, 0, run_carith w h, by unfold subI; rw [Int.toNat_natCast, Int.toNat_natCast, h], bits_lt h⟩
  | none =>
    refine ⟨nanOf w x y, 1, ?_, ?_, (nanOf_odd w x y).2⟩
    · unfold floatBits at h
      simp [Op.Complex.arith, Op.floatArith, h, Question.forced, nanOf]
      rfl
    · unfold subI
      rw [Int.toNat_natCast, Int.toNat_natCast, h]
      exact if_pos (nanOf_odd w x y).1
theorem run_cadd (t : TypeId) (a b c d : Nat) : ∃ re im q, (binOp .add t (.complex .f64 a b) (.complex .f64 c d)).run P w = .ok (.complex .f64 re im) (w.drewN q) ∧ canonI (re : Int) = addI a c ∧ canonI (im : Int) = addI b d ∧ (re : Int) ≤ 18446744073709551615 ∧ (im : Int) ≤ 18446744073709551615 := by
  obtain ⟨re, q, h1, h2, h3⟩ := run_carith_any (P := P) w a c
  obtain ⟨im, r, g1, g2, g3⟩ := run_carith_any (P := P) (w.drewN q) b d
  refine ⟨re, im, q + r, ?_, h2, g2, h3, g3⟩
  simp [binOp, Op.complexOp, h1, g1]
theorem run_csub (t : TypeId) (a b c d : Nat) : ∃ re im q, (binOp .sub t (.complex .f64 a b) (.complex .f64 c d)).run P w = .ok (.complex .f64 re im) (w.drewN q) ∧ canonI (re : Int) = subI a c ∧ canonI (im : Int) = subI b d ∧ (re : Int) ≤ 18446744073709551615 ∧ (im : Int) ≤ 18446744073709551615 := by
  obtain ⟨re, q, h1, h2, h3⟩ := run_carith_sub (P := P) w a c
  obtain ⟨im, r, g1, g2, g3⟩ := run_carith_sub (P := P) (w.drewN q) b d
  refine ⟨re, im, q + r, ?_, h2, g2, h3, g3⟩
  simp [binOp, Op.complexOp, h1, g1]
end
end Go.Proofs.Ythdlfjpdifipkaa
