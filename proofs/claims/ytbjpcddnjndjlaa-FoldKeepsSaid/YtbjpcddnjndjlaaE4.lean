/- Two sides of one scale, plainly: what they span; together; one without the other. -/
import Derived.Test.YtbjpcddnjndjlaaKA
namespace Go.Proofs.Ytbjpcddnjndjlaa
open Go.RowKit

/-- The least index of two sides; how many indices there are from it to the greatest. -/
def spF (o1 : Int) (l1 : List Nat) (o2 : Int) (l2 : List Nat) : Int := if l1.length = 0 then (if l2.length = 0 then 0 else o2) else if l2.length = 0 then o1 else min o1 o2
def spT (o1 : Int) (l1 : List Nat) (o2 : Int) (l2 : List Nat) : Int := if l1.length = 0 then (if l2.length = 0 then 0 else o2 + (l2.length : Int)) else if l2.length = 0 then o1 + (l1.length : Int) else max (o1 + (l1.length : Int)) (o2 + (l2.length : Int))
def spN (o1 : Int) (l1 : List Nat) (o2 : Int) (l2 : List Nat) : Nat := (spT o1 l1 o2 l2 - spF o1 l1 o2 l2).toNat
theorem sp_facts (o1 : Int) (l1 : List Nat) (o2 : Int) (l2 : List Nat) :
    (spN o1 l1 o2 l2 : Int) = spT o1 l1 o2 l2 - spF o1 l1 o2 l2 ∧ (l1.length ≠ 0 → spF o1 l1 o2 l2 ≤ o1 ∧ o1 + (l1.length : Int) ≤ spT o1 l1 o2 l2) ∧ (l2.length ≠ 0 → spF o1 l1 o2 l2 ≤ o2 ∧ o2 + (l2.length : Int) ≤ spT o1 l1 o2 l2) ∧
    (l1.length ≠ 0 ∨ l2.length ≠ 0 → (l1.length ≠ 0 ∧ spF o1 l1 o2 l2 = o1 ∨ l2.length ≠ 0 ∧ spF o1 l1 o2 l2 = o2) ∧ (l1.length ≠ 0 ∧ spT o1 l1 o2 l2 = o1 + (l1.length : Int) ∨ l2.length ≠ 0 ∧ spT o1 l1 o2 l2 = o2 + (l2.length : Int))) ∧ (l1.length = 0 → l2.length = 0 → spF o1 l1 o2 l2 = 0 ∧ spT o1 l1 o2 l2 = 0) := by
  have e : (spN o1 l1 o2 l2 : Int) = ((spT o1 l1 o2 l2 - spF o1 l1 o2 l2).toNat : Int) := rfl
  by_cases h1 : l1.length = 0
  · by_cases h2 : l2.length = 0
    · have a : spF o1 l1 o2 l2 = 0 := by simp [spF, h1, h2]
      have b : spT o1 l1 o2 l2 = 0 := by simp [spT, h1, h2]
      omega
    · have a : spF o1 l1 o2 l2 = o2 := by simp [spF, h1, h2]
      have b : spT o1 l1 o2 l2 = o2 + (l2.length : Int) := by simp [spT, h1, h2]
      omega
  · by_cases h2 : l2.length = 0
    · have a : spF o1 l1 o2 l2 = o1 := by simp [spF, h1, h2]
      have b : spT o1 l1 o2 l2 = o1 + (l1.length : Int) := by simp [spT, h1, h2]
      omega
    · have a : spF o1 l1 o2 l2 = min o1 o2 := by simp [spF, h1, h2]
      have b : spT o1 l1 o2 l2 = max (o1 + (l1.length : Int)) (o2 + (l2.length : Int)) := by simp [spT, h1, h2]
      omega
theorem sp_comm (o1 : Int) (l1 : List Nat) (o2 : Int) (l2 : List Nat) : spF o1 l1 o2 l2 = spF o2 l2 o1 l1 ∧ spN o1 l1 o2 l2 = spN o2 l2 o1 l1 := by
  have e : spF o1 l1 o2 l2 = spF o2 l2 o1 l1 ∧ spT o1 l1 o2 l2 = spT o2 l2 o1 l1 := by
    by_cases h1 : l1.length = 0
    · by_cases h2 : l2.length = 0
      · simp [spF, spT, h1, h2]
      · simp [spF, spT, h1, h2]
    · by_cases h2 : l2.length = 0
      · simp [spF, spT, h1, h2]
      · simp only [spF, spT, h1, h2, if_false]; omega
  unfold spN
  rw [e.1, e.2]; exact ⟨rfl, rfl⟩
/-- A row over a span. -/
def rowF (f : Int) (n : Nat) (g : Int → Nat) : List Nat := (List.range n).map fun (j : Nat) => g (f + (j : Int))
@[simp] theorem rowF_length (f : Int) (n : Nat) (g : Int → Nat) : (rowF f n g).length = n := by simp [rowF]
theorem rowF_get (f : Int) (n : Nat) (g : Int → Nat) (j : Nat) (h : j < n) : (rowF f n g).getD j 0 = g (f + (j : Int)) := by
  simp [rowF, List.getD_eq_getElem?_getD, h]
theorem rowF_congr (f : Int) (n : Nat) (g h : Int → Nat) (e : ∀ j, j < n → g (f + (j : Int)) = h (f + (j : Int))) : rowF f n g = rowF f n h := by
  unfold rowF
  apply List.map_congr_left
  intro j hj
  exact e j (List.mem_range.1 hj)
theorem rowF_succ (f : Int) (n : Nat) (g : Int → Nat) : rowF f (n + 1) g = rowF f n g ++ [g (f + (n : Int))] := by
  unfold rowF; rw [List.range_succ, List.map_append]; rfl
theorem rowF_zero (f : Int) (n : Nat) (g : Int → Nat) (h : ∀ i, g i = 0) : rowF f n g = List.replicate n 0 := by
  unfold rowF
  rw [List.eq_replicate_iff]
  refine ⟨by simp, fun b hb => ?_⟩
  obtain ⟨j, _, rfl⟩ := List.mem_map.1 hb
  exact h _
theorem rowF_set (f : Int) (n : Nat) (g h : Int → Nat) (j : Nat) (hj : j < n) (e : ∀ i, i ≠ f + (j : Int) → h i = g i) : rowF f n h = (rowF f n g).set j (h (f + (j : Int))) := by
  apply list_ext0
  · simp
  · intro i hi
    rw [rowF_length] at hi
    rw [rowF_get _ _ _ _ hi, List.getD_eq_getElem?_getD, List.getElem?_set]
    by_cases hji : j = i
    · subst hji; rw [if_pos rfl, if_pos (by simpa using hj)]; rfl
    · rw [if_neg hji, ← List.getD_eq_getElem?_getD, rowF_get _ _ _ _ hi]
      exact e _ (by omega)
theorem atN_in {o i : Int} {l : List Nat} (h1 : o ≤ i) (h2 : i < o + (l.length : Int)) : atN o l i = l.getD (i - o).toNat 0 := by unfold atN; rw [if_pos ⟨h1, h2⟩]
theorem atN_out {o i : Int} {l : List Nat} (h : i < o ∨ o + (l.length : Int) ≤ i) : atN o l i = 0 := by unfold atN; rw [if_neg (by omega)]
theorem atN_at (o : Int) (l : List Nat) (j : Nat) (h : j < l.length) : atN o l (o + (j : Int)) = l.getD j 0 := by
  rw [atN_in (by omega) (by omega)]; congr 1; omega
theorem atN_row (f : Int) (n : Nat) (g : Int → Nat) (i : Int) (h1 : f ≤ i) (h2 : i < f + (n : Int)) : atN f (rowF f n g) i = g i := by
  rw [atN_in h1 (by rw [rowF_length]; exact h2), rowF_get _ _ _ _ (by omega)]
  congr 1; omega
theorem row_atN (o : Int) (l : List Nat) : rowF o l.length (atN o l) = l := by
  apply list_ext0
  · simp
  · intro j hj
    rw [rowF_length] at hj
    rw [rowF_get _ _ _ _ hj, atN_at _ _ _ hj]
/-- Two sides together. -/
def mgL (o1 : Int) (l1 : List Nat) (o2 : Int) (l2 : List Nat) : List Nat := rowF (spF o1 l1 o2 l2) (spN o1 l1 o2 l2) fun i => atN o1 l1 i + atN o2 l2 i
theorem mgL_nil1 (o1 o2 : Int) (l2 : List Nat) (h2 : l2.length = 0 → o2 = 0) : spF o1 [] o2 l2 = o2 ∧ mgL o1 [] o2 l2 = l2 := by
  have hf : spF o1 [] o2 l2 = o2 := by unfold spF; by_cases h : l2.length = 0 <;> simp [h, h2]
  have hn : spN o1 [] o2 l2 = l2.length := by
    unfold spN; rw [hf]; unfold spT
    by_cases h : l2.length = 0
    · simp [h, h2 h]
    · simp [h]; omega
  refine ⟨hf, ?_⟩
  unfold mgL
  rw [hf, hn]
  have := row_atN o2 l2
  rw [← this]
  simp only [rowF_length]
  apply rowF_congr
  intro j hj
  rw [atN_out (l := []) (by simp; omega), Nat.zero_add, row_atN]
theorem mgL_comm (o1 : Int) (l1 : List Nat) (o2 : Int) (l2 : List Nat) : mgL o1 l1 o2 l2 = mgL o2 l2 o1 l1 := by
  unfold mgL
  rw [(sp_comm o1 l1 o2 l2).1, (sp_comm o1 l1 o2 l2).2]
  exact rowF_congr _ _ _ _ fun j _ => Nat.add_comm _ _
theorem mgL_nil2 (o1 o2 : Int) (l1 : List Nat) (h1 : l1.length = 0 → o1 = 0) : spF o1 l1 o2 [] = o1 ∧ mgL o1 l1 o2 [] = l1 := by
  rw [mgL_comm, (sp_comm o1 l1 o2 []).1]
  exact mgL_nil1 o2 o1 l1 h1
theorem mgL_atN (o1 : Int) (l1 : List Nat) (o2 : Int) (l2 : List Nat) (i : Int) : atN (spF o1 l1 o2 l2) (mgL o1 l1 o2 l2) i = atN o1 l1 i + atN o2 l2 i := by
  obtain ⟨f1, f2, f3, _⟩ := sp_facts o1 l1 o2 l2
  unfold mgL
  by_cases h : spF o1 l1 o2 l2 ≤ i ∧ i < spF o1 l1 o2 l2 + (spN o1 l1 o2 l2 : Int)
  · rw [atN_row _ _ _ _ h.1 h.2]
  · rw [atN_out (by rw [rowF_length]; omega), atN_out (l := l1), atN_out (l := l2)]
    · by_cases h2 : l2.length = 0
      · omega
      · have := f3 h2; omega
    · by_cases h1 : l1.length = 0
      · omega
      · have := f2 h1; omega
theorem sum_rowF (f : Int) (n : Nat) (g h : Int → Nat) : (rowF f n fun i => g i + h i).sum = (rowF f n g).sum + (rowF f n h).sum := by
  induction n with
  | zero => simp [rowF]
  | succ n ih => rw [rowF_succ, rowF_succ, rowF_succ, List.sum_append, List.sum_append, List.sum_append, ih]; simp; omega
theorem sum_rowF_atN (o : Int) (l : List Nat) (f : Int) (n : Nat) (h : l.length ≠ 0 → f ≤ o ∧ o + (l.length : Int) ≤ f + (n : Int)) : (rowF f n (atN o l)).sum = l.sum := by
  by_cases h0 : l.length = 0
  · have : rowF f n (atN o l) = List.replicate n 0 := rowF_zero _ _ _ fun i => atN_out (by omega)
    rw [this, List.eq_nil_of_length_eq_zero h0]; simp
  · obtain ⟨h1, h2⟩ := h h0
    obtain ⟨a, ha⟩ : ∃ a : Nat, (a : Int) = o - f := ⟨(o - f).toNat, by omega⟩
    have key : ∀ m, m ≤ l.length → (rowF f (a + m) (atN o l)).sum = (l.take m).sum := by
      intro m
      induction m with
      | zero =>
        intro _
        have : rowF f (a + 0) (atN o l) = List.replicate a 0 := by
          rw [Nat.add_zero, List.eq_replicate_iff]
          refine ⟨by simp, fun b hb => ?_⟩
          unfold rowF at hb
          obtain ⟨j, hj, rfl⟩ := List.mem_map.1 hb
          have := List.mem_range.1 hj
          exact atN_out (by omega)
        rw [this]; simp
      | succ m ih =>
        intro hm
        rw [← Nat.add_assoc, rowF_succ, List.sum_append, ih (by omega), List.sum_singleton]
        have : f + ((a + m : Nat) : Int) = o + (m : Int) := by omega
        rw [this, atN_at _ _ _ (by omega), take_snoc (by omega), List.sum_append, List.sum_singleton]
    have tail : ∀ k, (rowF f (a + l.length + k) (atN o l)).sum = l.sum := by
      intro k
      induction k with
      | zero => have := key l.length (Nat.le_refl _); rwa [List.take_length] at this
      | succ k ih =>
        rw [← Nat.add_assoc, rowF_succ, List.sum_append, ih, List.sum_singleton, atN_out (by omega)]
        rfl
    have := tail (n - (a + l.length))
    rwa [show a + l.length + (n - (a + l.length)) = n by omega] at this
theorem mgL_sum (o1 : Int) (l1 : List Nat) (o2 : Int) (l2 : List Nat) : (mgL o1 l1 o2 l2).sum = l1.sum + l2.sum := by
  obtain ⟨f1, f2, f3, _⟩ := sp_facts o1 l1 o2 l2
  unfold mgL
  rw [sum_rowF, sum_rowF_atN o1 l1 _ _ (fun h => by have := f2 h; omega), sum_rowF_atN o2 l2 _ _ (fun h => by have := f3 h; omega)]
/-- Two right sides are right together, if they are not too wide. -/
theorem mgL_right (o1 : Int) (l1 : List Nat) (o2 : Int) (l2 : List Nat) (h1 : sideE o1 l1 = 0) (h2 : sideE o2 l2 = 0) (hn : spN o1 l1 o2 l2 ≤ 160) : sideE (spF o1 l1 o2 l2) (mgL o1 l1 o2 l2) = 0 := by
  obtain ⟨a1, a2, a3⟩ := sideE_zero h1
  obtain ⟨b1, b2, b3⟩ := sideE_zero h2
  obtain ⟨f1, f2, f3, f4, f5⟩ := sp_facts o1 l1 o2 l2
  have hl : (mgL o1 l1 o2 l2).length = spN o1 l1 o2 l2 := by unfold mgL; simp
  unfold sideE
  rw [hl, if_neg (by omega)]
  by_cases h0 : spN o1 l1 o2 l2 = 0
  · rw [if_pos h0]
    have z1 : l1.length = 0 := by by_cases z : l1.length = 0; exact z; have := f2 z; omega
    have z2 : l2.length = 0 := by by_cases z : l2.length = 0; exact z; have := f3 z; omega
    rw [if_pos (f5 z1 z2).1]
  · rw [if_neg h0]
    have hz : l1.length ≠ 0 ∨ l2.length ≠ 0 := by
      by_cases z1 : l1.length = 0
      · by_cases z2 : l2.length = 0
        · have := f5 z1 z2; omega
        · exact .inr z2
      · exact .inl z1
    obtain ⟨g1, g2⟩ := f4 hz
    have e0 : (mgL o1 l1 o2 l2).getD 0 0 ≠ 0 := by
      unfold mgL
      rw [rowF_get _ _ _ _ (by omega)]
      rcases g1 with ⟨z, e⟩ | ⟨z, e⟩
      · have := (a3 z).1
        have e2 : atN o1 l1 (spF o1 l1 o2 l2 + ((0 : Nat) : Int)) = l1.getD 0 0 := by rw [e]; exact atN_at _ _ 0 (by omega)
        omega
      · have := (b3 z).1
        have e2 : atN o2 l2 (spF o1 l1 o2 l2 + ((0 : Nat) : Int)) = l2.getD 0 0 := by rw [e]; exact atN_at _ _ 0 (by omega)
        omega
    have e1 : (mgL o1 l1 o2 l2).getD (spN o1 l1 o2 l2 - 1) 0 ≠ 0 := by
      unfold mgL
      rw [rowF_get _ _ _ _ (by omega)]
      have ei : spF o1 l1 o2 l2 + ((spN o1 l1 o2 l2 - 1 : Nat) : Int) = spT o1 l1 o2 l2 - 1 := by omega
      rw [ei]
      rcases g2 with ⟨z, e⟩ | ⟨z, e⟩
      · have := (a3 z).2.1
        have e2 : atN o1 l1 (spT o1 l1 o2 l2 - 1) = l1.getD (l1.length - 1) 0 := by
          rw [e, show o1 + (l1.length : Int) - 1 = o1 + ((l1.length - 1 : Nat) : Int) by omega]; exact atN_at _ _ _ (by omega)
        omega
      · have := (b3 z).2.1
        have e2 : atN o2 l2 (spT o1 l1 o2 l2 - 1) = l2.getD (l2.length - 1) 0 := by
          rw [e, show o2 + (l2.length : Int) - 1 = o2 + ((l2.length - 1 : Nat) : Int) by omega]; exact atN_at _ _ _ (by omega)
        omega
    rw [if_neg (by omega), if_neg ?_]
    rcases g1 with ⟨z, e⟩ | ⟨z, e⟩ <;> rcases g2 with ⟨y, e'⟩ | ⟨y, e'⟩
    · have := a3 z; omega
    · have := a3 z; have := b3 y; omega
    · have := b3 z; have := a3 y; omega
    · have := b3 z; omega

/-- One side has all that another one has; what is left. -/
def hasS (o1 : Int) (l1 : List Nat) (o2 : Int) (l2 : List Nat) : Prop := ∀ i, i < l2.length → l2.getD i 0 ≤ atN o1 l1 (o2 + (i : Int))
def lsL (o1 : Int) (l1 : List Nat) (o2 : Int) (l2 : List Nat) : List Nat := rowF o1 l1.length fun i => atN o1 l1 i - atN o2 l2 i
theorem has_span {o1 : Int} {l1 : List Nat} {o2 : Int} {l2 : List Nat} (h2 : sideE o2 l2 = 0) (h : hasS o1 l1 o2 l2) : l2.length ≠ 0 → o1 ≤ o2 ∧ o2 + (l2.length : Int) ≤ o1 + (l1.length : Int) := by
  obtain ⟨_, _, b3⟩ := sideE_zero h2
  intro z
  obtain ⟨c1, c2, _⟩ := b3 z
  have d1 := h 0 (by omega)
  have d2 := h (l2.length - 1) (by omega)
  refine ⟨?_, ?_⟩
  · by_cases e : o1 ≤ o2
    · exact e
    · rw [atN_out (by omega)] at d1; omega
  · by_cases e : o2 + (l2.length : Int) ≤ o1 + (l1.length : Int)
    · exact e
    · rw [atN_out (l := l1) (by omega)] at d2; omega
theorem has_sp {o1 : Int} {l1 : List Nat} {o2 : Int} {l2 : List Nat} (h1 : sideE o1 l1 = 0) (h2 : sideE o2 l2 = 0) (h : hasS o1 l1 o2 l2) : spF o1 l1 o2 l2 = o1 ∧ spN o1 l1 o2 l2 = l1.length := by
  have hs := has_span h2 h
  obtain ⟨_, a2, _⟩ := sideE_zero h1
  have e : spF o1 l1 o2 l2 = o1 ∧ spT o1 l1 o2 l2 = o1 + (l1.length : Int) := by
    by_cases z1 : l1.length = 0
    · have z2 : l2.length = 0 := by
        by_cases z2 : l2.length = 0
        · exact z2
        · have := hs z2; omega
      have := a2 z1
      simp [spF, spT, z1, z2, this]
    · by_cases z2 : l2.length = 0
      · simp [spF, spT, z1, z2]
      · have := hs z2
        simp [spF, spT, z1, z2]
        omega
  refine ⟨e.1, ?_⟩
  unfold spN
  rw [e.1, e.2]
  omega
/-- A side that holds what a right side holds is that one, without its empty ends. -/
theorem TrimOf.right {o : Int} {l : List Nat} {o' : Int} {l' : List Nat} {o2 : Int} {l2 : List Nat} (h : TrimOf o l o' l') (e : ∀ i, atN o l i = atN o2 l2 i) (h2 : sideE o2 l2 = 0) : o' = o2 ∧ l' = l2 := by
  obtain ⟨_, b2, b3⟩ := sideE_zero h2
  rcases h with ⟨z, rfl, rfl⟩ | ⟨a, b, hab, hb, ha0, hb0, hna, hnb, rfl, rfl⟩
  · have z2 : l2.length = 0 := by
      by_cases z2 : l2.length = 0
      · exact z2
      · have := (b3 z2).1
        have e1 := e o2
        have e2 := atN_at o2 l2 0 (by omega)
        rw [show o2 + ((0 : Nat) : Int) = o2 by omega] at e2
        rw [e2] at e1
        by_cases hi : o ≤ o2 ∧ o2 < o + (l.length : Int)
        · rw [atN_in hi.1 hi.2, z _ (by omega)] at e1; omega
        · rw [atN_out (by omega)] at e1; omega
    exact ⟨(b2 z2).symm, (List.eq_nil_of_length_eq_zero z2).symm⟩
  · have va := e (o + (a : Int))
    rw [atN_at _ _ _ (by omega)] at va
    have vb := e (o + ((b - 1 : Nat) : Int))
    rw [atN_at _ _ _ (by omega)] at vb
    have ra : o2 ≤ o + (a : Int) ∧ o + (a : Int) < o2 + (l2.length : Int) := by
      by_cases hi : o2 ≤ o + (a : Int) ∧ o + (a : Int) < o2 + (l2.length : Int)
      · exact hi
      · rw [atN_out (l := l2) (by omega)] at va; exact absurd va hna
    have rb : o2 ≤ o + ((b - 1 : Nat) : Int) ∧ o + ((b - 1 : Nat) : Int) < o2 + (l2.length : Int) := by
      by_cases hi : o2 ≤ o + ((b - 1 : Nat) : Int) ∧ o + ((b - 1 : Nat) : Int) < o2 + (l2.length : Int)
      · exact hi
      · rw [atN_out (l := l2) (by omega)] at vb; exact absurd vb hnb
    obtain ⟨n1, n2, _⟩ := b3 (by omega)
    have vo := e o2
    have e2 := atN_at o2 l2 0 (by omega)
    rw [show o2 + ((0 : Nat) : Int) = o2 by omega] at e2
    rw [e2] at vo
    have vt := e (o2 + ((l2.length - 1 : Nat) : Int))
    rw [atN_at o2 l2 (l2.length - 1) (by omega)] at vt
    have ro : o + (a : Int) ≤ o2 := by
      by_cases hi : o + (a : Int) ≤ o2
      · exact hi
      · by_cases hj : o ≤ o2
        · rw [atN_in hj (by omega), ha0 _ (by omega)] at vo; omega
        · rw [atN_out (by omega)] at vo; omega
    have rt : o2 + ((l2.length - 1 : Nat) : Int) ≤ o + ((b - 1 : Nat) : Int) := by
      by_cases hi : o2 + ((l2.length - 1 : Nat) : Int) ≤ o + ((b - 1 : Nat) : Int)
      · exact hi
      · by_cases hj : o2 + ((l2.length - 1 : Nat) : Int) < o + (l.length : Int)
        · rw [atN_in (by omega) hj, hb0 _ (by omega) (by omega)] at vt; omega
        · rw [atN_out (l := l) (by omega)] at vt; omega
    have eo : o + (a : Int) = o2 := by omega
    refine ⟨eo, ?_⟩
    have hlen : ((l.drop a).take (b - a)).length = l2.length := by rw [List.length_take, List.length_drop]; omega
    apply list_ext0 hlen
    intro j hj
    rw [hlen] at hj
    have v := e (o2 + (j : Int))
    rw [atN_at o2 l2 j hj, ← eo, show o + (a : Int) + (j : Int) = o + ((a + j : Nat) : Int) by omega, atN_at _ _ _ (by omega)] at v
    rw [← v]
    simp only [List.getD_eq_getElem?_getD]
    rw [List.getElem?_take, if_pos (by omega), List.getElem?_drop]
theorem ls_back (o1 : Int) (l1 : List Nat) (o2 : Int) (l2 : List Nat) (i : Int) : atN (spF o1 l1 o2 l2) (lsL (spF o1 l1 o2 l2) (mgL o1 l1 o2 l2) o2 l2) i = atN o1 l1 i := by
  have hm := mgL_atN o1 l1 o2 l2 i
  unfold lsL
  by_cases h : spF o1 l1 o2 l2 ≤ i ∧ i < spF o1 l1 o2 l2 + ((mgL o1 l1 o2 l2).length : Int)
  · rw [atN_row _ _ _ _ h.1 h.2, hm]; omega
  · rw [atN_out (l := mgL o1 l1 o2 l2) (by omega)] at hm
    rw [atN_out (by rw [rowF_length]; omega)]; omega
theorem has_mg (o1 : Int) (l1 : List Nat) (o2 : Int) (l2 : List Nat) : hasS (spF o1 l1 o2 l2) (mgL o1 l1 o2 l2) o2 l2 := by
  intro i hi
  rw [mgL_atN, atN_at o2 l2 i hi]; omega
end Go.Proofs.Ytbjpcddnjndjlaa
