/- Plain facts on check sums. -/
import Derived.Test.YtficodklidaheaaDoorL0
namespace Go.Proofs.YtficodklidaheaaDoor
open Go.RowKit
def poly : Nat := 2197175160
/-- One step of a sum. -/
def stepN (n : Nat) : Nat := if n % 2 = 1 then n / 2 ^^^ poly else n / 2
/-- Some steps. -/
def stepsN : Nat → Nat → Nat
  | 0, n => n
  | k + 1, n => stepsN k (stepN n)
/-- A sum, not turned, behind some bytes. -/
def moreN (s : Nat) (l : List Nat) : Nat := l.foldl (fun s b => stepsN 8 (s ^^^ b)) s

theorem xor_div_two (a b : Nat) : (a ^^^ b) / 2 = a / 2 ^^^ b / 2 := by
  have := Nat.shiftRight_xor_distrib (a := a) (b := b) (i := 1)
  simpa [Nat.shiftRight_eq_div_pow] using this
theorem xor_mod_two (a b : Nat) : (a ^^^ b) % 2 = (a + b) % 2 := by
  have h := @Nat.xor_mod_two_eq_one a b
  omega
theorem stepN_xor (a b : Nat) : stepN (a ^^^ b) = stepN a ^^^ stepN b := by
  unfold stepN
  rw [xor_div_two, xor_mod_two]
  by_cases ha : a % 2 = 1 <;> by_cases hb : b % 2 = 1
  · rw [if_neg (by omega), if_pos ha, if_pos hb, Nat.xor_assoc, Nat.xor_comm poly, Nat.xor_assoc, Nat.xor_self, Nat.xor_zero]
  · rw [if_pos (by omega), if_pos ha, if_neg hb, Nat.xor_assoc, Nat.xor_assoc, Nat.xor_comm poly]
  · rw [if_pos (by omega), if_neg ha, if_pos hb, Nat.xor_assoc]
  · rw [if_neg (by omega), if_neg ha, if_neg hb]
theorem stepsN_xor (k : Nat) : ∀ a b : Nat, stepsN k (a ^^^ b) = stepsN k a ^^^ stepsN k b := by
  induction k with
  | zero => intro a b; rfl
  | succ k ih => intro a b; show stepsN k (stepN (a ^^^ b)) = _; rw [stepN_xor, ih]; rfl
theorem stepsN_add (j k n : Nat) : stepsN (j + k) n = stepsN k (stepsN j n) := by
  induction j generalizing n with
  | zero => simp [stepsN]
  | succ j ih => rw [Nat.succ_add]; show stepsN (j + k) (stepN n) = _; rw [ih]; rfl
theorem stepN_lt (n : Nat) (h : n < 4294967296) : stepN n < 4294967296 := by
  unfold stepN
  split
  · exact Nat.xor_lt_two_pow (n := 32) (by omega) (by decide)
  · omega
theorem stepsN_lt (k n : Nat) (h : n < 4294967296) : stepsN k n < 4294967296 := by
  induction k generalizing n with
  | zero => exact h
  | succ k ih => exact ih _ (stepN_lt n h)
theorem stepN_zero (n : Nat) (h : n < 4294967296) (h0 : stepN n = 0) : n = 0 := by
  unfold stepN at h0
  split at h0
  · have : n / 2 = poly := by
      have h1 : n / 2 ^^^ poly ^^^ poly = 0 ^^^ poly := by rw [h0]
      rwa [Nat.xor_assoc, Nat.xor_self, Nat.xor_zero, Nat.zero_xor] at h1
    have hp : poly = 2197175160 := rfl
    omega
  · omega
theorem stepsN_zero (k n : Nat) (h : n < 4294967296) (h0 : stepsN k n = 0) : n = 0 := by
  induction k generalizing n with
  | zero => exact h0
  | succ k ih => exact stepN_zero n h (ih _ (stepN_lt n h) h0)
theorem xor_eq_zero' {a b : Nat} (h : a ^^^ b = 0) : a = b := by
  have h1 : a ^^^ b ^^^ b = 0 ^^^ b := by rw [h]
  rwa [Nat.xor_assoc, Nat.xor_self, Nat.xor_zero, Nat.zero_xor] at h1
theorem stepsN_inj (k a b : Nat) (ha : a < 4294967296) (hb : b < 4294967296) (h : stepsN k a = stepsN k b) : a = b := by
  apply xor_eq_zero'
  apply stepsN_zero k _ (Nat.xor_lt_two_pow (n := 32) ha hb)
  rw [stepsN_xor, h, Nat.xor_self]
theorem stepsN_0 (k : Nat) : stepsN k 0 = 0 := by
  induction k with
  | zero => rfl
  | succ k ih => show stepsN k (stepN 0) = 0; rw [show stepN 0 = 0 from rfl, ih]

theorem moreN_lt (s : Nat) (l : List Nat) (hs : s < 4294967296) (hl : ∀ x ∈ l, x < 256) : moreN s l < 4294967296 := by
  unfold moreN
  induction l generalizing s with
  | nil => exact hs
  | cons b r ih =>
    have hb := hl b (by simp)
    exact ih _ (stepsN_lt 8 _ (Nat.xor_lt_two_pow (n := 32) hs (by omega))) (fun x hx => hl x (by simp [hx]))
theorem moreN_xor (s t : Nat) (l : List Nat) : moreN (s ^^^ t) l = moreN s l ^^^ stepsN (8 * l.length) t := by
  unfold moreN
  induction l generalizing s t with
  | nil => simp [stepsN]
  | cons b r ih =>
    simp only [List.foldl_cons, List.length_cons]
    have e : stepsN 8 (s ^^^ t ^^^ b) = stepsN 8 (s ^^^ b) ^^^ stepsN 8 t := by
      rw [← stepsN_xor]; congr 1; rw [Nat.xor_assoc, Nat.xor_comm t b, ← Nat.xor_assoc]
    rw [e, ih, ← stepsN_add]
    congr 2
    omega
theorem moreN_append (s : Nat) (l r : List Nat) : moreN s (l ++ r) = moreN (moreN s l) r := by simp [moreN]
theorem moreN_snoc (s : Nat) (l : List Nat) (b : Nat) : moreN s (l ++ [b]) = stepsN 8 (moreN s l ^^^ b) := by simp [moreN]

/-- The other bits. -/
theorem not_xor (n : Nat) (h : n < 4294967296) : 4294967295 - n = n ^^^ 4294967295 := by
  have hn : n < 2 ^ 32 := h
  have b := congrArg BitVec.toNat (BitVec.xor_allOnes (x := BitVec.ofNat 32 n))
  have : n ^^^ 4294967295 = 4294967295 - n := by
    simpa [BitVec.toNat_xor, BitVec.toNat_allOnes, BitVec.toNat_not, Nat.mod_eq_of_lt hn] using b
  exact this.symm

/-- The sum of bytes that had a sum, and some more. -/
def crcMore (s : Nat) (l : List Nat) : Nat := 4294967295 - moreN (4294967295 - s) l
theorem crcMore_lt (s : Nat) (l : List Nat) : crcMore s l < 4294967296 := by unfold crcMore; omega
theorem crcMore_append (s : Nat) (l r : List Nat) (hs : s < 4294967296) (hl : ∀ x ∈ l, x < 256) : crcMore s (l ++ r) = crcMore (crcMore s l) r := by
  have h := moreN_lt (4294967295 - s) l (by omega) hl
  unfold crcMore
  rw [moreN_append]
  congr 2
  omega
theorem crcMore_join (l r : List Nat) (hl : ∀ x ∈ l, x < 256) (hr : ∀ x ∈ r, x < 256) : crcMore 0 (l ++ r) = stepsN (8 * r.length) (crcMore 0 l) ^^^ crcMore 0 r := by
  have hL := moreN_lt 4294967295 l (by omega) hl
  have hR := moreN_lt 4294967295 r (by omega) hr
  have h1 : crcMore 0 l = moreN 4294967295 l ^^^ 4294967295 := not_xor _ hL
  have h2 : crcMore 0 r = moreN 4294967295 r ^^^ 4294967295 := not_xor _ hR
  have h3 : crcMore 0 (l ++ r) = moreN (moreN 4294967295 l) r ^^^ 4294967295 := by
    unfold crcMore
    rw [Nat.sub_zero, moreN_append, not_xor _ (moreN_lt _ r hL hr)]
  have h4 : moreN 4294967295 l = 4294967295 ^^^ crcMore 0 l := by
    rw [h1, Nat.xor_comm (moreN 4294967295 l), ← Nat.xor_assoc, Nat.xor_self, Nat.zero_xor]
  rw [h3, h4, moreN_xor, h2]
  rw [Nat.xor_assoc, Nat.xor_comm (moreN 4294967295 r), Nat.xor_assoc, Nat.xor_comm 4294967295]

/-- What four steps make of the lowest four bits. -/
def nibL : List Nat := [0, 274646895, 549293790, 820201905, 1098587580, 1361435347, 1640403810, 1905808397, 2197175160, 2460548119, 2722870694, 2987750089, 3280807620, 3553878443, 3811616794, 4084100981]
theorem nib_steps : ∀ n : Fin 16, stepsN 4 n.val = nibL.getD n.val 0 := by decide
theorem nibble (v : Nat) : stepsN 4 v = v / 16 ^^^ nibL.getD (v % 16) 0 := by
  have e : v = v / 16 * 16 ^^^ v % 16 := by
    have h1 := nat_join 4 (v / 16 * 16) (v % 16) (by omega) (by omega)
    have h2 : v / 16 * 16 ^^^ v % 16 = v / 16 * 16 ||| v % 16 := by
      apply Nat.eq_of_testBit_eq
      intro i
      simp only [Nat.testBit_xor, Nat.testBit_or]
      have a1 : (v / 16 * 16).testBit i = (decide (4 ≤ i) && (v / 16).testBit (i - 4)) := by
        have := Nat.testBit_shiftLeft (v / 16) (i := 4) (j := i)
        simpa [Nat.shiftLeft_eq] using this
      have a2 : (v % 16).testBit i = (decide (i < 4) && v.testBit i) := Nat.testBit_mod_two_pow v 4 i
      rw [a1, a2]
      by_cases h : 4 ≤ i
      · have : ¬ i < 4 := by omega
        simp [h, this]
      · simp [h]
    rw [h2, h1]; omega
  have e2 : stepsN 4 (v / 16 * 16) = v / 16 := by
    have hs : ∀ x : Nat, stepN (x * 2) = x := fun x => by unfold stepN; rw [if_neg (by omega)]; omega
    show stepN (stepN (stepN (stepN (v / 16 * 16)))) = _
    rw [show v / 16 * 16 = v / 16 * 8 * 2 from by omega, hs, show v / 16 * 8 = v / 16 * 4 * 2 from by omega, hs, show v / 16 * 4 = v / 16 * 2 * 2 from by omega, hs, hs]
  have h := nib_steps ⟨v % 16, by omega⟩
  simp only at h
  have : stepsN 4 v = stepsN 4 (v / 16 * 16 ^^^ v % 16) := by rw [← e]
  rw [this, stepsN_xor, e2, h]
end Go.Proofs.YtficodklidaheaaDoor
