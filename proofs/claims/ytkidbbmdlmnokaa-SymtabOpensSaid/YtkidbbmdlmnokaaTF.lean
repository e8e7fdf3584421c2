/- Layer 34, plainly: which texts begin with one. -/
import Derived.Test.YtkidbbmdlmnokaaTE
namespace Go.Proofs.Ytkidbbmdlmnokaa
open Go.RowKit
theorem less_asymm {a b : List UInt8} (h : Op.bytesLess a b = true) : Op.bytesLess b a = false := by
  have := bytesLess_total b a
  rw [h] at this
  simpa using (Bool.or_eq_false_iff.1 this).1
theorem less_irrefl (a : List UInt8) : Op.bytesLess a a = false := by
  have := bytesLess_total a a
  simpa using this
theorem begS_iff (x s : ByteArray) : begS x s = true ↔ s.toList <+: x.toList := by
  unfold begS
  rw [Bool.and_eq_true, decide_eq_true_eq, beq_iff_eq, toList_extractX, List.drop_zero, List.prefix_iff_eq_take, toList_size]
  constructor
  · rintro ⟨_, h⟩; exact h.symm
  · intro h
    refine ⟨?_, h.symm⟩
    have := congrArg List.length h
    rw [List.length_take, toList_size, toList_size] at this
    omega
theorem search_low {L : List ByteArray} {s : ByteArray} {z i : Nat} (ha : Asc L) (h : SearchTo L.length (geAt L s) z) (hi : i < L.length) (hz : i < z) : Op.bytesLess L[i].toList s.toList = true := by
  obtain ⟨hzl, h1, _⟩ := h
  rcases h1 with h1 | h1
  · omega
  · have hzl : z - 1 < L.length := by omega
    rw [geAt_eq hzl] at h1
    have h3 : Op.bytesLess L[z - 1].toList s.toList = true := by simpa using h1
    by_cases q : i = z - 1
    · subst q; exact h3
    · exact bytesLess_trans _ _ _ (ha i (z - 1) hi hzl (by omega)) h3
theorem search_high {L : List ByteArray} {s : ByteArray} {z i : Nat} (ha : Asc L) (h : SearchTo L.length (geAt L s) z) (hi : i < L.length) (hz : z ≤ i) : Op.bytesLess L[i].toList s.toList = false := by
  obtain ⟨_, _, h2⟩ := h
  have hzl : z < L.length := by omega
  rcases h2 with h2 | h2
  · omega
  · rw [geAt_eq hzl] at h2
    have h3 : Op.bytesLess L[z].toList s.toList = false := by simpa using h2
    cases hb : Op.bytesLess L[i].toList s.toList with
    | false => rfl
    | true =>
      by_cases q : z = i
      · subst q; rw [hb] at h3; cases h3
      · have := bytesLess_trans _ _ _ (ha z i hzl hi (by omega)) hb
        rw [this] at h3; cases h3
theorem asc_le {L : List ByteArray} (ha : Asc L) {i j : Nat} (hi : i < L.length) (hj : j < L.length) (h : i ≤ j) : Op.bytesLess L[j].toList L[i].toList = false := by
  by_cases q : i = j
  · subst q; exact less_irrefl _
  · exact less_asymm (ha i j hi hj (by omega))
theorem noPre_eq {L : List ByteArray} {z k : Nat} {s : ByteArray} (h : z + k < L.length) : noPre L z s k = !begS L[z + k] s := by
  unfold noPre
  rw [List.getD_eq_getElem?_getD, List.getElem?_eq_getElem h]; rfl
theorem prefix_of_search {L : List ByteArray} {s : ByteArray} {z y : Nat} (ha : Asc L) (hz : SearchTo L.length (geAt L s) z) (hy : SearchTo (L.length - z) (noPre L z s) y) : (L.filter (fun x => begS x s)).length = y := by
  have e : L = L.take z ++ ((L.drop z).take y ++ (L.drop z).drop y) := by rw [List.take_append_drop, List.take_append_drop]
  have f1 : (L.take z).filter (fun x => begS x s) = [] := by
    rw [List.filter_eq_nil_iff]
    intro x hx hb
    obtain ⟨i, hi, rfl⟩ := List.mem_iff_getElem.1 hx
    rw [List.length_take] at hi
    rw [List.getElem_take] at hb
    have h1 := search_low ha hz (i := i) (by omega) (by omega)
    rw [pre_not_less _ _ ((begS_iff _ _).1 hb)] at h1
    cases h1
  have f2 : ((L.drop z).take y).filter (fun x => begS x s) = (L.drop z).take y := by
    rw [List.filter_eq_self]
    intro x hx
    obtain ⟨k, hk, rfl⟩ := List.mem_iff_getElem.1 hx
    rw [List.length_take, List.length_drop] at hk
    rw [List.getElem_take, List.getElem_drop]
    have hy0 := hy.1
    have hl : z + (y - 1) < L.length := by omega
    rcases hy.2.1 with h | h
    · omega
    · rw [noPre_eq hl] at h
      have hb : begS L[z + (y - 1)] s = true := by simpa using h
      exact (begS_iff _ _).2 (pre_between _ _ _ (search_high ha hz (by omega) (by omega)) (asc_le ha (by omega) hl (by omega)) ((begS_iff _ _).1 hb))
  have f3 : ((L.drop z).drop y).filter (fun x => begS x s) = [] := by
    rw [List.filter_eq_nil_iff]
    intro x hx hb
    obtain ⟨k, hk, rfl⟩ := List.mem_iff_getElem.1 hx
    rw [List.length_drop, List.length_drop] at hk
    rw [List.getElem_drop, List.getElem_drop] at hb
    have hl : z + y < L.length := by omega
    rcases hy.2.2 with h | h
    · omega
    · rw [noPre_eq hl] at h
      have h3 := (begS_iff _ _).2 (pre_between s.toList L[z + y].toList _ (search_high ha hz hl (by omega)) (asc_le ha hl (by omega) (by omega)) ((begS_iff _ _).1 hb))
      rw [h3] at h; cases h
  have hy0 := hy.1
  rw [e, List.filter_append, List.filter_append, f1, f2, f3]
  simp only [List.nil_append, List.append_nil, List.length_take, List.length_drop]
  omega
end Go.Proofs.Ytkidbbmdlmnokaa
