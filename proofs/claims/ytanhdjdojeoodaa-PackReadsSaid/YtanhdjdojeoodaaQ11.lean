/- Plain facts: what the document says of a word that is read. -/
import Derived.Test.YtanhdjdojeoodaaQ8
namespace Go.Proofs.Ytanhdjdojeoodaa
open Go.RowKit

/-- What the document says of word r at place t: value, bytes, how many, error. -/
def docF (r : WRec) (l : List Int) (t : Nat) : Int × List Int × Nat × Int :=
  if r.k = 0 ∨ r.k = 1 then ((lookF l t).1, [], (lookF l t).2.1, (lookF l t).2.2)
  else if r.k = 2 then ((getFixF l t).1, [], (getFixF l t).2.1, (getFixF l t).2.2)
  else if r.k = 3 then
    (if (countF l t 0 r.n).2.2 ≠ 0 then (0, [], 0, (countF l t 0 r.n).2.2)
     else if (l.length : Int) - t - (countF l t 0 r.n).2.1 < (countF l t 0 r.n).1 then (0, [], 0, 2)
     else ((countF l t 0 r.n).1, (l.drop (t + (countF l t 0 r.n).2.1)).take (countF l t 0 r.n).1.toNat, (countF l t 0 r.n).2.1 + (countF l t 0 r.n).1.toNat, 0))
  else if r.k = 5 then ((countF l t 0 r.n).1, [], (countF l t 0 r.n).2.1, (countF l t 0 r.n).2.2)
  else if r.k = 4 then
    (if r.n < 0 then (0, [], 0, 1) else if (l.length : Int) - t < r.n then (0, [], 0, 2) else (0, (l.drop t).take r.n.toNat, r.n.toNat, 0))
  else (0, [], 0, 0)

/-- What the reader answers of word r is that. -/
structure Agree (r : WRec) (l : List Int) (t : Nat) (e gv : Int) (bs : List Int) (N2 : Nat) (E2 : Int) : Prop where
  k0 : r.k = 0 ∨ r.k = 1 → lookE l t e = (gv, N2, E2)
  k2 : r.k = 2 → fixF l t e = (gv, N2, E2)
  k3 : r.k = 3 → textF l t e r.n = (bs, N2, E2)
  k4 : r.k = 4 → nextF l t e r.n = (bs, N2, E2)
  k5 : r.k = 5 → countF l t e r.n = (gv, N2, E2)
  other : r.k ≠ 0 → r.k ≠ 1 → r.k ≠ 2 → r.k ≠ 3 → r.k ≠ 4 → r.k ≠ 5 → N2 = 0 ∧ E2 = e
  taken : t + N2 ≤ l.length

theorem next_fault (l : List Int) (t : Nat) (e n : Int) (he : e ≠ 0) : nextF l t e n = ([], 0, e) := by unfold nextF; rw [if_pos he]
theorem lookE_zero (l : List Int) (t : Nat) : lookE l t 0 = lookF l t := if_pos rfl
theorem lookE_err (l : List Int) (t : Nat) (e : Int) (he : e ≠ 0) : lookE l t e = (0, 0, e) := if_neg he
theorem count_fault (l : List Int) (t : Nat) (e n : Int) (he : e ≠ 0) : countF l t e n = (0, 0, e) := by
  unfold countF; rw [lookE_err l t e he, if_neg (fun h => he h.1)]
theorem agree_fault (r : WRec) (l : List Int) (t : Nat) (e : Int) (ht : t ≤ l.length) (he : e ≠ 0) : Agree r l t e 0 [] 0 e := by
  refine ⟨fun _ => lookE_err l t e he, fun _ => ?_, fun _ => ?_, fun _ => next_fault l t e _ he, fun _ => count_fault l t e _ he, fun _ _ _ _ _ _ => ⟨rfl, rfl⟩, ht⟩
  · unfold fixF; rw [next_fault l t e 8 he, if_pos he]
  · unfold textF; rw [count_fault l t e _ he]; simp only; rw [next_fault _ _ e _ he, if_pos he]
theorem countF_cases (l : List Int) (t : Nat) (n : Int) (hb : ∀ x ∈ l, 0 ≤ x ∧ x < 256) (_ht : t ≤ l.length) : ((countF l t 0 n).2.2 ≠ 0 ∧ (countF l t 0 n).1 = 0 ∧ (countF l t 0 n).2.1 = 0) ∨ ((countF l t 0 n).2.2 = 0 ∧ 0 ≤ (countF l t 0 n).1 ∧ (countF l t 0 n).1 ≤ n ∧ t + (countF l t 0 n).2.1 ≤ l.length) := by
  unfold countF
  split
  · exact .inl ⟨by decide, rfl, rfl⟩
  · rename_i h
    obtain ⟨r, hr⟩ : ∃ r, r = lookE l t 0 := ⟨_, rfl⟩
    rw [← hr] at h ⊢
    obtain ⟨v, m, e⟩ := r
    by_cases he : e = 0
    · subst he
      have h1 := lookE_num hb hr.symm
      refine .inr ⟨rfl, h1.2.1, ?_, h1.2.2.2⟩
      by_cases hv : v ≤ n
      · exact hv
      · exact absurd ⟨rfl, .inr (show n < v by omega)⟩ h
    · have h1 := lookE_fault hr.symm he
      exact .inl ⟨he, h1.1, h1.2⟩
theorem agree_doc (r : WRec) (l : List Int) (t : Nat) (hb : ∀ x ∈ l, 0 ≤ x ∧ x < 256) (ht : t ≤ l.length) : Agree r l t 0 (docF r l t).1 (docF r l t).2.1 (docF r l t).2.2.1 (docF r l t).2.2.2 := by
  have hc := countF_cases l t r.n hb ht
  have hlt := lookF_taken l t ht
  by_cases h0 : r.k = 0 ∨ r.k = 1
  · have hd : docF r l t = ((lookF l t).1, [], (lookF l t).2.1, (lookF l t).2.2) := by unfold docF; rw [if_pos h0]
    rw [hd]
    exact ⟨fun _ => lookE_zero l t, fun h => by omega, fun h => by omega, fun h => by omega, fun h => by omega, fun a b => by omega, hlt⟩
  by_cases h2 : r.k = 2
  · have hd : docF r l t = ((getFixF l t).1, [], (getFixF l t).2.1, (getFixF l t).2.2) := by unfold docF; rw [if_neg h0, if_pos h2]
    have hg : fixF l t 0 = getFixF l t := by
      have hnx : nextF l t 0 8 = if (l.length : Int) - t < 8 then ([], 0, 2) else ((l.drop t).take (8 : Int).toNat, (8 : Int).toNat, 0) := by
        unfold nextF; rw [if_neg (by simp), if_neg (by omega)]
      unfold fixF getFixF
      by_cases h8 : l.length - t < 8
      · rw [if_pos (by omega)] at hnx
        rw [hnx, if_pos h8]; rfl
      · rw [if_neg (by omega)] at hnx
        rw [hnx, if_neg h8]; rfl
    have hgt : t + (getFixF l t).2.1 ≤ l.length := by
      unfold getFixF
      split
      · simpa using ht
      · simp only; omega
    rw [hd]
    exact ⟨fun h => by omega, fun _ => hg, fun h => by omega, fun h => by omega, fun h => by omega, fun a b c => by omega, hgt⟩
  by_cases h3 : r.k = 3
  · unfold docF
    rw [if_neg h0, if_neg h2, if_pos h3]
    have htx : textF l t 0 r.n = if (nextF l (t + (countF l t 0 r.n).2.1) (countF l t 0 r.n).2.2 (countF l t 0 r.n).1).2.2 ≠ 0 then ([], 0, (nextF l (t + (countF l t 0 r.n).2.1) (countF l t 0 r.n).2.2 (countF l t 0 r.n).1).2.2)
      else ((nextF l (t + (countF l t 0 r.n).2.1) (countF l t 0 r.n).2.2 (countF l t 0 r.n).1).1, (countF l t 0 r.n).2.1 + (nextF l (t + (countF l t 0 r.n).2.1) (countF l t 0 r.n).2.2 (countF l t 0 r.n).1).2.1, 0) := rfl
    obtain ⟨c, hcc⟩ : ∃ c, c = countF l t 0 r.n := ⟨_, rfl⟩
    rw [← hcc] at htx hc ⊢
    obtain ⟨v, m, e⟩ := c
    simp only at htx hc ⊢
    rcases hc with ⟨he, _, _⟩ | ⟨he, hv0, hv1, hm⟩
    · rw [if_pos he]
      rw [next_fault _ _ _ _ he, if_pos he] at htx
      exact ⟨fun h => by omega, fun h => by omega, fun _ => htx, fun h => by omega, fun h => by omega, fun a b c d => by omega, by simpa using ht⟩
    · subst he
      rw [if_neg (by simp)]
      have hnx : nextF l (t + m) 0 v = if (l.length : Int) - t - m < v then ([], 0, 2) else ((l.drop (t + m)).take v.toNat, v.toNat, 0) := by
        unfold nextF
        rw [if_neg (by simp), if_neg (by omega)]
        by_cases hs : (l.length : Int) - t - m < v
        · rw [if_pos hs, if_pos (by omega)]
        · rw [if_neg hs, if_neg (by omega)]
      rw [hnx] at htx
      by_cases hs : (l.length : Int) - t - m < v
      · rw [if_pos hs] at htx ⊢
        exact ⟨fun h => by omega, fun h => by omega, fun _ => by rw [htx]; simp, fun h => by omega, fun h => by omega, fun a b c d => by omega, by simpa using ht⟩
      · rw [if_neg hs] at htx ⊢
        exact ⟨fun h => by omega, fun h => by omega, fun _ => by rw [htx]; simp, fun h => by omega, fun h => by omega, fun a b c d => by omega, by simp only; omega⟩
  by_cases h5 : r.k = 5
  · have hd : docF r l t = ((countF l t 0 r.n).1, [], (countF l t 0 r.n).2.1, (countF l t 0 r.n).2.2) := by unfold docF; rw [if_neg h0, if_neg h2, if_neg h3, if_pos h5]
    rw [hd]
    exact ⟨fun h => by omega, fun h => by omega, fun h => by omega, fun h => by omega, fun _ => rfl, fun a b c d e f => by omega, by rcases hc with h | h <;> simp only <;> omega⟩
  by_cases h4 : r.k = 4
  · have hd : docF r l t = if r.n < 0 then (0, [], 0, 1) else if (l.length : Int) - t < r.n then (0, [], 0, 2) else (0, (l.drop t).take r.n.toNat, r.n.toNat, 0) := by unfold docF; rw [if_neg h0, if_neg h2, if_neg h3, if_neg h5, if_pos h4]
    have hn : nextF l t 0 r.n = if r.n < 0 then ([], 0, 1) else if (l.length : Int) - t < r.n then ([], 0, 2) else ((l.drop t).take r.n.toNat, r.n.toNat, 0) := by unfold nextF; rw [if_neg (by simp)]
    rw [hd]
    by_cases a1 : r.n < 0
    · rw [if_pos a1] at hn ⊢
      exact ⟨fun h => by omega, fun h => by omega, fun h => by omega, fun _ => hn, fun h => by omega, fun a b c d e f => by omega, by simpa using ht⟩
    · rw [if_neg a1] at hn ⊢
      by_cases a2 : (l.length : Int) - t < r.n
      · rw [if_pos a2] at hn ⊢
        exact ⟨fun h => by omega, fun h => by omega, fun h => by omega, fun _ => hn, fun h => by omega, fun a b c d e f => by omega, by simpa using ht⟩
      · rw [if_neg a2] at hn ⊢
        exact ⟨fun h => by omega, fun h => by omega, fun h => by omega, fun _ => hn, fun h => by omega, fun a b c d e f => by omega, by simp only; omega⟩
  · have hd : docF r l t = (0, [], 0, 0) := by unfold docF; rw [if_neg h0, if_neg h2, if_neg h3, if_neg h5, if_neg h4]
    rw [hd]
    exact ⟨fun h => by omega, fun h => by omega, fun h => by omega, fun h => by omega, fun h => by omega, fun _ _ _ _ _ _ => ⟨rfl, rfl⟩, by simpa using ht⟩
end Go.Proofs.Ytanhdjdojeoodaa
