/- The document's shifting and rounding, plainly. -/
import Derived.Test.YthdlfjpdifipkaaN5
namespace Go.Proofs.Ythdlfjpdifipkaa

theorem nat_or_even (x : Nat) (h : x % 2 = 0) : x ||| 1 = x + 1 := by
  apply Nat.eq_of_testBit_eq
  intro i
  rw [Nat.testBit_or]
  cases i with
  | zero => simp [Nat.testBit_zero]; omega
  | succ i =>
    rw [Nat.testBit_succ, Nat.testBit_succ, Nat.testBit_succ]
    rw [show (x + 1) / 2 = x / 2 by omega]
    simp
theorem nat_or_odd (x : Nat) (h : x % 2 = 1) : x ||| 1 = x := by
  apply Nat.eq_of_testBit_eq
  intro i
  rw [Nat.testBit_or]
  cases i with
  | zero => simp [Nat.testBit_zero]; omega
  | succ i =>
    rw [Nat.testBit_succ, Nat.testBit_succ]
    simp
/-- One place to the right; the last bit stays set if one went out. -/
def sh1 (m : Nat) : Nat := m / 2 ||| m % 2
def shN : Nat → Nat → Nat
  | 0, m => m
  | k + 1, m => if m < 2 then m else shN k (sh1 m)
theorem sh1_val (m : Nat) : sh1 m = if m % 2 = 1 ∧ m / 2 % 2 = 0 then m / 2 + 1 else m / 2 := by
  unfold sh1
  rcases Nat.mod_two_eq_zero_or_one m with h | h
  · rw [h, if_neg (by omega), Nat.or_zero]
  · rw [h]
    have hd : m / 2 = m / 2 / 2 * 2 + m / 2 % 2 := by omega
    rcases Nat.mod_two_eq_zero_or_one (m / 2) with h2 | h2
    · rw [if_pos ⟨rfl, h2⟩]
      have := nat_or_even (m / 2) h2
      exact this
    · rw [if_neg (by omega)]
      exact nat_or_odd (m / 2) h2
theorem sh1_told (m : Nat) : Told (sh1 m) m 1 := by
  unfold Told
  rw [sh1_val]
  by_cases h : m % 2 = 1 ∧ m / 2 % 2 = 0
  · rw [if_pos h]; exact .inr ⟨by omega, by omega, by omega⟩
  · rw [if_neg h]
    by_cases h2 : m % 2 = 1
    · exact .inr ⟨by omega, by omega, by omega⟩
    · exact .inl (by omega)
theorem Told.step {s m' m k : Nat} (h : Told s m' k) (h1 : Told m' m 1) : Told s m (k + 1) := by
  have hp : 2 ^ (k + 1) = 2 * 2 ^ k := by rw [Nat.pow_succ, Nat.mul_comm]
  have hk0 : 0 < 2 ^ k := Nat.two_pow_pos k
  have e1 : ∀ x : Nat, x * (2 * 2 ^ k) = 2 * (x * 2 ^ k) := fun x => Nat.mul_left_comm _ _ _
  unfold Told at h h1 ⊢
  rw [hp, e1, e1, e1]
  simp only [Nat.pow_one] at h1
  rcases h with h | ⟨ho, ha, hb⟩
  · rcases h1 with h1 | ⟨ho1, ha1, hb1⟩
    · exact .inl (by omega)
    · cases k with
      | zero =>
        simp only [Nat.pow_zero, Nat.mul_one] at h ⊢
        subst h
        exact .inr ⟨ho1, by omega, by omega⟩
      | succ k =>
        have : s * 2 ^ (k + 1) = 2 * (s * 2 ^ k) := by rw [Nat.pow_succ, ← Nat.mul_assoc, Nat.mul_comm]
        omega
  · refine .inr ⟨ho, ?_, ?_⟩
    · rcases h1 with h1 | ⟨_, h1, _⟩ <;> omega
    · rcases h1 with h1 | ⟨_, _, h1⟩ <;> omega
theorem shN_told : ∀ (k m : Nat), Told (shN k m) m k := by
  intro k
  induction k with
  | zero => intro m; exact .inl (by simp [shN])
  | succ k ih =>
    intro m
    unfold shN
    by_cases h : m < 2
    · rw [if_pos h]
      have hm : m = 0 ∨ m = 1 := by omega
      rcases hm with rfl | rfl
      · exact .inl (by simp)
      · refine .inr ⟨rfl, by simp, ?_⟩
        have : 0 < 2 ^ (k + 1) := Nat.two_pow_pos _
        omega
    · rw [if_neg h]
      exact (ih (sh1 m)).step (sh1_told m)

/-- The float's rung of X with three more places, behind both loops of the document's round. -/
def roundEnd (X e : Nat) : Nat :=
  let m := X / 8 + (if 4 < X % 8 ∨ (X % 8 = 4 ∧ X / 8 % 2 = 1) then 1 else 0)
  let m2 := if 9007199254740992 ≤ m then m / 2 else m
  let e2 := if 9007199254740992 ≤ m then e + 1 else e
  if e2 < 2047 then (if 4503599627370496 ≤ m2 then m2 - 4503599627370496 + e2 * 4503599627370496 else m2) else 9218868437227405312
theorem roundEnd_near (X e : Nat) (h0 : 0 < X) (he : 1 ≤ e) (hX : X < 72057594037927936) (hlo : 36028797018963968 ≤ X ∨ e = 1) : roundEnd X e = nearX X e := by
  have hL : max 1 (e + X.log2 - 55) = e := by
    have h1 : X.log2 ≤ 55 := by
      have : X.log2 < 56 := (Nat.log2_lt (by omega)).2 (by simpa using hX)
      omega
    rcases hlo with h | h
    · have : 55 ≤ X.log2 := (Nat.le_log2 (by omega)).2 (by simpa using h)
      omega
    · omega
  unfold nearX
  rw [hL]
  have e3 : evenCut (X * 2 ^ e) (e + 3) = evenCut X 3 := by
    have := evenCut_scale X 3 e
    rwa [Nat.add_comm 3 e] at this
  rw [e3]
  have e4 : evenCut X 3 = X / 8 + (if 4 < X % 8 ∨ (X % 8 = 4 ∧ X / 8 % 2 = 1) then 1 else 0) := by
    unfold evenCut
    have e5 : (2 ^ 3 < 2 * (X % 2 ^ 3) ∨ 2 ^ 3 = 2 * (X % 2 ^ 3) ∧ X / 2 ^ 3 % 2 = 1) ↔ (4 < X % 8 ∨ (X % 8 = 4 ∧ X / 8 % 2 = 1)) := by
      simp only [Nat.reducePow]
      omega
    simp only [e5, Nat.reducePow]
  rw [e4]
  unfold roundEnd
  obtain ⟨m, hm⟩ : ∃ m, m = X / 8 + (if 4 < X % 8 ∨ (X % 8 = 4 ∧ X / 8 % 2 = 1) then 1 else 0) := ⟨_, rfl⟩
  simp only [← hm]
  have hm1 : m ≤ 9007199254740992 := by
    rw [hm]; split <;> omega
  have hm2 : 4503599627370496 ≤ m ∨ e = 1 := by
    rcases hlo with h | h
    · left; rw [hm]; split <;> omega
    · exact .inr h
  by_cases hc : 9007199254740992 ≤ m
  · simp only [if_pos hc]
    by_cases h1 : e + 1 < 2047
    · rw [if_pos h1, if_pos (by omega)]; omega
    · rw [if_neg h1]; omega
  · simp only [if_neg hc]
    by_cases h1 : e < 2047
    · rw [if_pos h1]
      by_cases h2 : 4503599627370496 ≤ m
      · rw [if_pos h2]; omega
      · rw [if_neg h2]; omega
    · rw [if_neg h1]; omega

/-- The document's round, behind its two loops: right shifts while there are 57 digits, left shifts while there are less than 56. -/
def downN (X e : Nat) : Nat × Nat := if 72057594037927936 ≤ X then (sh1 X, e + 1) else (X, e)
def upN : Nat → Nat → Nat → Nat × Nat
  | 0, X, e => (X, e)
  | k + 1, X, e => if X < 36028797018963968 ∧ 1 < e then upN k (2 * X) (e - 1) else (X, e)
theorem upN_spec : ∀ (k X e : Nat), 0 < X → 1 ≤ e → e ≤ k + 1 → X < 72057594037927936 → ∃ Y g, upN k X e = (Y, g) ∧ 0 < Y ∧ 1 ≤ g ∧ Y < 72057594037927936 ∧ (36028797018963968 ≤ Y ∨ g = 1) ∧ nearX Y g = nearX X e := by
  intro k
  induction k with
  | zero => intro X e h0 h1 h2 h3; exact ⟨X, e, rfl, h0, h1, h3, .inr (by omega), rfl⟩
  | succ k ih =>
    intro X e h0 h1 h2 h3
    unfold upN
    by_cases hc : X < 36028797018963968 ∧ 1 < e
    · rw [if_pos hc]
      obtain ⟨Y, g, r1, r2, r3, r4, r5, r6⟩ := ih (2 * X) (e - 1) (by omega) (by omega) (by omega) (by omega)
      refine ⟨Y, g, r1, r2, r3, r4, r5, ?_⟩
      rw [r6]
      have := nearX_scale X 1 (e - 1) h0
      rwa [Nat.pow_one, Nat.mul_comm X 2, show e - 1 + 1 = e by omega] at this
    · rw [if_neg hc]
      exact ⟨X, e, rfl, h0, h1, h3, by omega, rfl⟩
theorem down_near (X e : Nat) (h0 : 0 < X) (hX : X < 144115188075855872) : nearX (downN X e).1 (downN X e).2 = nearX X e ∧ (downN X e).1 < 72057594037927936 ∧ 0 < (downN X e).1 ∧ e ≤ (downN X e).2 ∧ (downN X e).2 ≤ e + 1 := by
  unfold downN
  by_cases h : 72057594037927936 ≤ X
  · rw [if_pos h]
    have hv := sh1_val X
    have hb : 36028797018963968 ≤ sh1 X ∧ sh1 X < 72057594037927936 := by
      rw [hv]; split <;> omega
    have := nearX_told (sh1 X) X 1 e (sh1_told X) (.inr (by omega)) (by omega)
    exact ⟨this.symm, hb.2, by omega, by omega, by omega⟩
  · rw [if_neg h]
    exact ⟨rfl, by omega, h0, by omega, by omega⟩

/-- The rung that the document's round finds. -/
def roundN (X e : Nat) : Nat := if X = 0 then 0 else
  let a := downN X e
  let b := upN e a.1 a.2
  roundEnd b.1 b.2
theorem roundN_near (X e : Nat) (h0 : 0 < X) (he : 1 ≤ e) (hX : X < 144115188075855872) : roundN X e = nearX X e := by
  obtain ⟨h1, h2, h3, h4, h5⟩ := down_near X e h0 hX
  obtain ⟨Y, g, r1, r2, r3, r4, r5, r6⟩ := upN_spec e (downN X e).1 (downN X e).2 h3 (by omega) (by omega) h2
  unfold roundN
  rw [if_neg (by omega)]
  simp only [r1]
  rw [roundEnd_near Y g r2 r3 r4 r5, r6, h1]
end Go.Proofs.Ythdlfjpdifipkaa
