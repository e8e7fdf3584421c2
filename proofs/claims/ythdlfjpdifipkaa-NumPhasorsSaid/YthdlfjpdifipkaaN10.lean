/- The document's Add, Sub, Less are the floats', plainly. -/
import Derived.Test.YthdlfjpdifipkaaN8
import Derived.Test.YthdlfjpdifipkaaN4
namespace Go.Proofs.Ythdlfjpdifipkaa

def sgN (a : Nat) : Bool := decide (9223372036854775808 ≤ a)
/-- The document's sum. -/
def refAddN (a b : Nat) : Nat :=
  if oddI a = true ∨ oddI b = true then 9221120237041090561 else
  if finI a = false ∧ finI b = false ∧ a ≠ b then 9221120237041090561 else
  if finI a = false then a else if finI b = false then b else
  if wE a < wE b then finAdd (sgN b) (wM b) (wE b) (sgN a) (wM a) (wE a) else finAdd (sgN a) (wM a) (wE a) (sgN b) (wM b) (wE b)
theorem fin_nat (a : Nat) : finI (a : Int) = decide (a / 4503599627370496 % 2048 ≠ 2047) := by
  unfold finI; rw [decide_eq_decide]; omega
theorem odd_nat (a : Nat) : oddI (a : Int) = decide (a / 4503599627370496 % 2048 = 2047 ∧ a % 4503599627370496 ≠ 0) := by
  unfold oddI; rw [decide_eq_decide]; omega
theorem read_inf (a : Nat) (ha : a < 18446744073709551616) (hf : a / 4503599627370496 % 2048 = 2047) (h0 : a % 4503599627370496 = 0) : Ieee.double.read a = .infinity (sgN a) := by
  have hs : Ieee.double.signWeight = 9223372036854775808 := by decide
  have hi : Ieee.double.infRung = 9218868437227405312 := by decide
  have hb : Ieee.double.binade = 4503599627370496 := by decide
  unfold Ieee.Format.read sgN
  simp only [hs, hi, hb]
  have hn : (a / 9223372036854775808 % 2 == 1) = decide (9223372036854775808 ≤ a) := by
    by_cases h : 9223372036854775808 ≤ a
    · rw [decide_eq_true h, beq_iff_eq]; omega
    · rw [decide_eq_false h, beq_eq_false_iff_ne]; omega
  rw [hn, if_neg (by omega), if_neg (by omega), if_pos (by omega)]
theorem read_nan (a : Nat) (_ha : a < 18446744073709551616) (hf : a / 4503599627370496 % 2048 = 2047) (h0 : a % 4503599627370496 ≠ 0) : ∃ s t, Ieee.double.read a = .nan s t := by
  have hs : Ieee.double.signWeight = 9223372036854775808 := by decide
  have hi : Ieee.double.infRung = 9218868437227405312 := by decide
  have hb : Ieee.double.binade = 4503599627370496 := by decide
  unfold Ieee.Format.read
  simp only [hs, hi, hb]
  rw [if_neg (by omega), if_neg (by omega), if_neg (by omega)]
  exact ⟨_, _, rfl⟩
theorem word_inf (a : Nat) (ha : a < 18446744073709551616) (hf : a / 4503599627370496 % 2048 = 2047) (h0 : a % 4503599627370496 = 0) : Ieee.double.word (sgN a) 9218868437227405312 = a := by
  rw [word_eq]; unfold sgN
  by_cases h : 9223372036854775808 ≤ a
  · rw [decide_eq_true h, if_pos rfl]; omega
  · rw [decide_eq_false h, if_neg (by decide)]; omega
theorem nearest_le (neg : Bool) (m : Nat) (p : Int) : ∃ r, r ≤ 9218868437227405312 ∧ Ieee.double.nearest neg m p = Ieee.double.word neg r := by
  have hi : Ieee.double.infRung = 9218868437227405312 := by decide
  unfold Ieee.Format.nearest
  by_cases h : m = 0
  · rw [if_pos h]; exact ⟨0, by omega, rfl⟩
  · rw [if_neg h]; refine ⟨_, ?_, rfl⟩; rw [hi]; exact Nat.min_le_right _ _
theorem canon_word (neg : Bool) (r : Nat) (h : r ≤ 9218868437227405312) : canonI ((Ieee.double.word neg r : Nat) : Int) = ((Ieee.double.word neg r : Nat) : Int) := by
  unfold canonI
  rw [if_neg]
  rw [odd_nat, word_eq, decide_eq_true_eq]
  cases neg with
  | true => rw [if_pos rfl]; omega
  | false => rw [if_neg (by decide)]; omega
theorem addI_sum (a b : Nat) : addI (a : Int) (b : Int) = match ((Ieee.double.read a).sum (Ieee.double.read b)).map Ieee.double.write with | some r => canonI (r : Int) | none => 9221120237041090561 := by
  unfold addI floatBits FloatKind.format
  simp only [Ieee.Format.add, Int.toNat_natCast]
  rfl
theorem add_fin (a b : Nat) (ha : a < 18446744073709551616) (hb : b < 18446744073709551616) (hfa : a / 4503599627370496 % 2048 ≠ 2047) (hfb : b / 4503599627370496 % 2048 ≠ 2047) (hle : wE b ≤ wE a) :
    addI (a : Int) (b : Int) = ((finAdd (sgN a) (wM a) (wE a) (sgN b) (wM b) (wE b) : Nat) : Int) := by
  have hs := sum_fin (sgN a) (wM a) (wE a) (sgN b) (wM b) (wE b) (wM_lt a) (wM_lt b) (wE_bd a).2 (wE_bd b).1 hle (wM_hi a)
  rw [addI_sum, read_fin a ha hfa, read_fin b hb hfb]
  unfold sgN at hs ⊢
  rw [hs]
  simp only
  simp only [Ieee.Datum.sum, Option.map_some, Ieee.Format.write, Option.some.injEq] at hs
  obtain ⟨r, hr, he⟩ := nearest_le (if Ieee.signed (decide (9223372036854775808 ≤ a)) (wM a) (((wE a : Int) - 1075) - min ((wE a : Int) - 1075) ((wE b : Int) - 1075)).toNat + Ieee.signed (decide (9223372036854775808 ≤ b)) (wM b) (((wE b : Int) - 1075) - min ((wE a : Int) - 1075) ((wE b : Int) - 1075)).toNat = 0 then (decide (9223372036854775808 ≤ a) && decide (9223372036854775808 ≤ b)) else decide (Ieee.signed (decide (9223372036854775808 ≤ a)) (wM a) (((wE a : Int) - 1075) - min ((wE a : Int) - 1075) ((wE b : Int) - 1075)).toNat + Ieee.signed (decide (9223372036854775808 ≤ b)) (wM b) (((wE b : Int) - 1075) - min ((wE a : Int) - 1075) ((wE b : Int) - 1075)).toNat < 0)) (Ieee.signed (decide (9223372036854775808 ≤ a)) (wM a) (((wE a : Int) - 1075) - min ((wE a : Int) - 1075) ((wE b : Int) - 1075)).toNat + Ieee.signed (decide (9223372036854775808 ≤ b)) (wM b) (((wE b : Int) - 1075) - min ((wE a : Int) - 1075) ((wE b : Int) - 1075)).toNat).natAbs (min ((wE a : Int) - 1075) ((wE b : Int) - 1075))
  rw [← hs, he]
  exact canon_word _ r hr
theorem add_ref (a b : Nat) (ha : a < 18446744073709551616) (hb : b < 18446744073709551616) : addI (a : Int) (b : Int) = ((refAddN a b : Nat) : Int) := by
  unfold refAddN
  by_cases h1 : oddI (a : Int) = true ∨ oddI (b : Int) = true
  · rw [if_pos h1, addI_sum]
    rcases h1 with h | h
    · rw [odd_nat, decide_eq_true_eq] at h
      obtain ⟨s, t, e⟩ := read_nan a ha h.1 h.2
      rw [e]; rfl
    · rw [odd_nat, decide_eq_true_eq] at h
      obtain ⟨s, t, e⟩ := read_nan b hb h.1 h.2
      rw [e]
      cases Ieee.double.read a <;> rfl
  · rw [if_neg h1]
    have hoa : ¬ (a / 4503599627370496 % 2048 = 2047 ∧ a % 4503599627370496 ≠ 0) := fun h => h1 (.inl (by rw [odd_nat, decide_eq_true_eq]; exact h))
    have hob : ¬ (b / 4503599627370496 % 2048 = 2047 ∧ b % 4503599627370496 ≠ 0) := fun h => h1 (.inr (by rw [odd_nat, decide_eq_true_eq]; exact h))
    have hcan : ∀ x : Nat, ¬ (x / 4503599627370496 % 2048 = 2047 ∧ x % 4503599627370496 ≠ 0) → canonI (x : Int) = x := fun x h => by
      unfold canonI; rw [if_neg]; rw [odd_nat, decide_eq_true_eq]; exact h
    have hi : Ieee.double.infRung = 9218868437227405312 := by decide
    simp only [fin_nat, decide_eq_false_iff_not, ne_eq, Decidable.not_not]
    by_cases hfa : a / 4503599627370496 % 2048 = 2047
    · have ha0 : a % 4503599627370496 = 0 := by omega
      by_cases hfb : b / 4503599627370496 % 2048 = 2047
      · have hb0 : b % 4503599627370496 = 0 := by omega
        rw [addI_sum, read_inf a ha hfa ha0, read_inf b hb hfb hb0]
        by_cases hab : a = b
        · rw [if_neg (fun x => x.2.2 hab), if_pos hfa]
          subst hab
          simp only [Ieee.Datum.sum, if_pos, Option.map_some, Ieee.Format.write, hi, word_inf a ha hfa ha0]
          exact hcan a hoa
        · rw [if_pos ⟨hfa, hfb, hab⟩]
          have hne : sgN a ≠ sgN b := by
            unfold sgN
            intro h
            rw [decide_eq_decide] at h
            omega
          simp only [Ieee.Datum.sum, if_neg hne, Option.map_none]
          rfl
      · rw [if_neg (fun x => hfb x.2.1), if_pos hfa, addI_sum, read_inf a ha hfa ha0, read_fin b hb hfb]
        simp only [Ieee.Datum.sum, Option.map_some, Ieee.Format.write, hi, word_inf a ha hfa ha0]
        exact hcan a hoa
    · rw [if_neg (fun x => hfa x.1), if_neg hfa]
      by_cases hfb : b / 4503599627370496 % 2048 = 2047
      · have hb0 : b % 4503599627370496 = 0 := by omega
        rw [if_pos hfb, addI_sum, read_fin a ha hfa, read_inf b hb hfb hb0]
        simp only [Ieee.Datum.sum, Option.map_some, Ieee.Format.write, hi, word_inf b hb hfb hb0]
        exact hcan b hob
      · rw [if_neg hfb]
        by_cases hlt : wE a < wE b
        · rw [if_pos hlt, addI_comm, add_fin b a hb ha hfb hfa (by omega)]
        · rw [if_neg hlt, add_fin a b ha hb hfa hfb (by omega)]
end Go.Proofs.Ythdlfjpdifipkaa
