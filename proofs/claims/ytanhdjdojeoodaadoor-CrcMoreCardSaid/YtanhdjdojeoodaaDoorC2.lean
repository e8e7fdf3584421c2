/- Plain facts on check sums, more: tables of what some steps make of each bit. -/
import Derived.Test.YtanhdjdojeoodaaDoorC1
namespace Go.Proofs.YtanhdjdojeoodaaDoor
open Go.RowKit
/-- What a table makes of the lowest k bits of a number. -/
def ofK (tab : List Nat) (v : Nat) : Nat → Nat
  | 0 => 0
  | k + 1 => if v / 2 ^ k % 2 = 1 then ofK tab v k ^^^ tab.getD k 0 else ofK tab v k
/-- The table tab tells of each bit what A makes of it. -/
def IsTab (tab : List Nat) (A : Nat → Nat) : Prop := tab.length = 32 ∧ ∀ i, i < 32 → tab.getD i 0 = A (2 ^ i)
theorem ofK_tab (tab : List Nat) (A : Nat → Nat) (hA : ∀ x y, A (x ^^^ y) = A x ^^^ A y) (ht : IsTab tab A) (v : Nat) : ∀ k, k ≤ 32 → ofK tab v k = A (v % 2 ^ k) := by
  intro k
  induction k with
  | zero =>
    intro _
    have h0 : A 0 = 0 := by
      have := hA 0 0
      rw [Nat.xor_self, Nat.xor_self] at this
      exact this
    show 0 = A (v % 1)
    rw [Nat.mod_one, h0]
  | succ k ih =>
    intro hk
    have hp := Nat.two_pow_pos k
    have hlt : v % 2 ^ k < 2 ^ k := Nat.mod_lt _ hp
    have hm : v % 2 ^ (k + 1) = v % 2 ^ k + 2 ^ k * (v / 2 ^ k % 2) := by rw [Nat.pow_succ]; exact Nat.mod_mul
    show (if v / 2 ^ k % 2 = 1 then _ else _) = _
    rw [ih (by omega)]
    by_cases h : v / 2 ^ k % 2 = 1
    · rw [if_pos h, ht.2 k (by omega), ← hA]
      congr 1
      rw [hm, h, Nat.mul_one]
      have h2 : v % 2 ^ k ^^^ 2 ^ k = v % 2 ^ k ||| 2 ^ k := by
        apply Nat.eq_of_testBit_eq
        intro i
        simp only [Nat.testBit_xor, Nat.testBit_or]
        by_cases hi : i = k
        · subst hi; rw [Nat.testBit_lt_two_pow hlt]; simp
        · rw [Nat.testBit_two_pow_of_ne (fun e => hi e.symm)]; simp
      rw [h2, Nat.or_comm, nat_join k (2 ^ k) (v % 2 ^ k) (Nat.mod_self _) hlt]; omega
    · have h0 : v / 2 ^ k % 2 = 0 := by omega
      rw [if_neg h, hm, h0]; simp
theorem ofK_all (tab : List Nat) (A : Nat → Nat) (hA : ∀ x y, A (x ^^^ y) = A x ^^^ A y) (ht : IsTab tab A) (v : Nat) (hv : v < 4294967296) : ofK tab v 32 = A v := by
  rw [ofK_tab tab A hA ht v 32 (Nat.le_refl _), Nat.mod_eq_of_lt hv]
theorem ofK_lt (tab : List Nat) (v k : Nat) (h : ∀ x ∈ tab, x < 4294967296) (hk : k ≤ tab.length) : ofK tab v k < 4294967296 := by
  induction k with
  | zero => show 0 < _; omega
  | succ k ih =>
    have := ih (by omega)
    show (if v / 2 ^ k % 2 = 1 then _ else _) < _
    split
    · refine Nat.xor_lt_two_pow (n := 32) this ?_
      apply h
      rw [List.getD_eq_getElem?_getD, List.getElem?_eq_getElem (by omega)]; simp
    · exact this
/-- Twice what a table makes, of the first k bits; the others are not told yet. -/
def twK (tab : List Nat) (k : Nat) : List Nat := (List.range 32).map fun i => if i < k then ofK tab (tab.getD i 0) 32 else 0
theorem twK_length (tab : List Nat) (k : Nat) : (twK tab k).length = 32 := by simp [twK]
theorem twK_zero (tab : List Nat) : twK tab 0 = List.replicate 32 0 := rfl
theorem twK_set (tab : List Nat) (k : Nat) (hk : k < 32) : (twK tab k).set k (ofK tab (tab.getD k 0) 32) = twK tab (k + 1) := by
  apply List.ext_getElem?
  intro i
  rw [List.getElem?_set]
  by_cases hi : i < 32
  · by_cases h : k = i
    · subst h; simp [twK, hk]
    · rw [if_neg h]
      simp only [twK, List.getElem?_map, List.getElem?_range hi, Option.map_some]
      by_cases h2 : i < k
      · rw [if_pos h2, if_pos (by omega)]
      · rw [if_neg h2, if_neg (by omega)]
  · rw [if_neg (by omega)]
    simp [twK, hi]
theorem twK_tab (tab : List Nat) (A : Nat → Nat) (hA : ∀ x y, A (x ^^^ y) = A x ^^^ A y) (hlt : ∀ x, x < 4294967296 → A x < 4294967296) (ht : IsTab tab A) : IsTab (twK tab 32) (fun x => A (A x)) := by
  refine ⟨twK_length _ _, fun i hi => ?_⟩
  have e : (twK tab 32).getD i 0 = ofK tab (tab.getD i 0) 32 := by simp [twK, List.getD_eq_getElem?_getD, hi]
  rw [e, ht.2 i hi]
  exact ofK_all tab A hA ht _ (hlt _ (by have : 2 ^ i ≤ 2 ^ 31 := Nat.pow_le_pow_right (by omega) (by omega); omega))
theorem tab_lt (tab : List Nat) (A : Nat → Nat) (hlt : ∀ x, x < 4294967296 → A x < 4294967296) (ht : IsTab tab A) : ∀ x ∈ tab, x < 4294967296 := by
  intro x hx
  obtain ⟨i, hi, rfl⟩ := List.getElem_of_mem hx
  have hi' : i < 32 := by rw [← ht.1]; exact hi
  have := ht.2 i hi'
  rw [List.getD_eq_getElem?_getD, List.getElem?_eq_getElem hi] at this
  simp only [Option.getD_some] at this
  rw [this]
  exact hlt _ (by have : 2 ^ i ≤ 2 ^ 31 := Nat.pow_le_pow_right (by omega) (by omega); omega)
/-- The table of one step, its first k + 1 bits told. -/
def oneK (k : Nat) : List Nat := poly :: (List.range 31).map fun i => if i < k then 2 ^ i else 0
theorem oneK_length (k : Nat) : (oneK k).length = 32 := by simp [oneK]
theorem oneK_set (k : Nat) (hk : k < 31) : (oneK k).set (k + 1) (2 ^ k) = oneK (k + 1) := by
  show poly :: List.set _ k _ = poly :: _
  congr 1
  apply List.ext_getElem?
  intro i
  rw [List.getElem?_set]
  by_cases hi : i < 31
  · by_cases h : k = i
    · subst h; simp [hk]
    · rw [if_neg h]
      simp only [List.getElem?_map, List.getElem?_range hi, Option.map_some]
      by_cases h2 : i < k
      · rw [if_pos h2, if_pos (by omega)]
      · rw [if_neg h2, if_neg (by omega)]
  · rw [if_neg (by omega)]
    simp [hi]
theorem oneK_tab : IsTab (oneK 31) (stepsN 1) := by
  refine ⟨oneK_length _, fun i hi => ?_⟩
  cases i with
  | zero => decide
  | succ i =>
    have hi' : i < 31 := by omega
    have e : (oneK 31).getD (i + 1) 0 = 2 ^ i := by simp [oneK, List.getD_eq_getElem?_getD, hi']
    rw [e]
    show 2 ^ i = stepN (2 ^ (i + 1))
    unfold stepN
    rw [Nat.pow_succ, if_neg (by omega)]; omega
/-- The table of k steps. -/
def StepTab (tab : List Nat) (k : Nat) : Prop := IsTab tab (stepsN k)
theorem StepTab.twice {tab : List Nat} {k : Nat} (h : StepTab tab k) : StepTab (twK tab 32) (2 * k) := by
  have := twK_tab tab (stepsN k) (stepsN_xor k) (stepsN_lt k) h
  have e : (fun x => stepsN k (stepsN k x)) = stepsN (2 * k) := by funext x; rw [← stepsN_add]; congr 1; omega
  rw [e] at this
  exact this
theorem StepTab.of {tab : List Nat} {k v : Nat} (h : StepTab tab k) (hv : v < 4294967296) : ofK tab v 32 = stepsN k v := ofK_all tab _ (stepsN_xor k) h v hv
theorem StepTab.lt {tab : List Nat} {k : Nat} (h : StepTab tab k) : ∀ x ∈ tab, x < 4294967296 := tab_lt tab _ (stepsN_lt k) h
end Go.Proofs.YtanhdjdojeoodaaDoor
