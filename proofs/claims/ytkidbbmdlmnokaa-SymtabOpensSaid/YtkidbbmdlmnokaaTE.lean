/- Layer 34, plainly: where Search ends among texts in order. -/
import Derived.Test.YtkidbbmdlmnokaaTD
import Derived.Test.YtkidbbmdlmnokaaBO
namespace Go.Proofs.Ytkidbbmdlmnokaa
open Go.RowKit
/-- Texts rise. -/
def Asc (L : List ByteArray) : Prop := ∀ (i j : Nat) (hi : i < L.length) (hj : j < L.length), i < j → Op.bytesLess L[i].toList L[j].toList = true
theorem geAt_eq {L : List ByteArray} {s : ByteArray} {i : Nat} (hi : i < L.length) : geAt L s i = !Op.bytesLess L[i].toList s.toList := by
  unfold geAt geS
  rw [List.getD_eq_getElem?_getD, List.getElem?_eq_getElem hi]; rfl
theorem below_of_search {L : List ByteArray} {s : ByteArray} {z : Nat} (ha : Asc L) (h : SearchTo L.length (geAt L s) z) : belS L s = z := by
  obtain ⟨hz, h1, h2⟩ := h
  have e : belS L s = ((L.take z).filter (belT s)).length + ((L.drop z).filter (belT s)).length := by
    unfold belS
    rw [← List.length_append, ← List.filter_append, List.take_append_drop]
  have f1 : (L.take z).filter (belT s) = L.take z := by
    rw [List.filter_eq_self]
    intro x hx
    obtain ⟨i, hi, rfl⟩ := List.mem_iff_getElem.1 hx
    have hil : i < L.length := by rw [List.length_take] at hi; omega
    have hiz : i < z := by rw [List.length_take] at hi; omega
    rw [List.getElem_take]
    rcases h1 with h1 | h1
    · omega
    · have hzl : z - 1 < L.length := by omega
      rw [geAt_eq hzl] at h1
      have h3 : Op.bytesLess L[z - 1].toList s.toList = true := by simpa using h1
      by_cases q : i = z - 1
      · subst q; exact h3
      · exact bytesLess_trans _ _ _ (ha i (z - 1) hil hzl (by omega)) h3
  have f2 : (L.drop z).filter (belT s) = [] := by
    rw [List.filter_eq_nil_iff]
    intro x hx hb
    obtain ⟨k, hk, rfl⟩ := List.mem_iff_getElem.1 hx
    rw [List.length_drop] at hk
    rw [List.getElem_drop] at hb
    have hzl : z < L.length := by omega
    rcases h2 with h2 | h2
    · omega
    · rw [geAt_eq hzl] at h2
      have h3 : Op.bytesLess L[z].toList s.toList = false := by simpa using h2
      have hb2 : Op.bytesLess L[z + k].toList s.toList = true := hb
      by_cases q : k = 0
      · subst q
        rw [show Op.bytesLess L[z].toList s.toList = true from hb2] at h3
        cases h3
      · have := bytesLess_trans _ _ _ (ha z (z + k) hzl (by omega) (by omega)) hb2
        rw [this] at h3; cases h3
  rw [e, f1, f2, List.length_take]
  simp; omega
end Go.Proofs.Ytkidbbmdlmnokaa
