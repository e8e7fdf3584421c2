/- The walk of 'CrcTells'. -/
import Derived.Test.YtanhdjdojeoodaaDoorC13
import Derived.Deep.RegionHeld
namespace Go.Proofs.YtanhdjdojeoodaaDoor
open Go.RowKit
attribute [local go_sem ↓] Go.wp_at_zero Go.wp_at_succ

theorem more_turn (b : Nat) : ∀ (l : List Nat) (s j : Nat), j < l.length → moreN s (l.set j (l.getD j 0 ^^^ b)) = moreN s l ^^^ stepsN (8 * (l.length - j)) b := by
  intro l
  induction l with
  | nil => intro s j h; exact absurd h (by simp)
  | cons x r ih =>
    intro s j h
    cases j with
    | zero =>
      show moreN (stepsN 8 (s ^^^ (x ^^^ b))) r = moreN (stepsN 8 (s ^^^ x)) r ^^^ _
      rw [← Nat.xor_assoc, stepsN_xor, moreN_xor, ← stepsN_add]
      congr 2
      simp; omega
    | succ j =>
      have := ih (stepsN 8 (s ^^^ x)) j (by simpa using h)
      show moreN (stepsN 8 (s ^^^ x)) (r.set j (r.getD j 0 ^^^ b)) = moreN (stepsN 8 (s ^^^ x)) r ^^^ _
      rw [this]
      congr 2
      simp
theorem set_lt {l : List Nat} {B j x : Nat} (hb : ∀ y ∈ l, y < B) (hx : x < B) : ∀ y ∈ l.set j x, y < B := by
  intro y hy
  rcases List.mem_or_eq_of_mem_set hy with h | rfl
  · exact hb y h
  · exact hx
theorem tells (l : List Nat) (j b : Nat) (hl : ∀ x ∈ l, x < 256) (hj : j < l.length) (h0 : 0 < b) (hb : b < 256) : crcMore 0 (l.set j (l.getD j 0 ^^^ b)) ≠ crcMore 0 l := by
  intro h
  have hx : l.getD j 0 ^^^ b < 256 := Nat.xor_lt_two_pow (n := 8) (getD_lt hl hj) hb
  have h1 := moreN_lt 4294967295 l (by omega) hl
  have h2 := moreN_lt 4294967295 _ (by omega) (set_lt hl hx (j := j))
  have h3 : moreN 4294967295 (l.set j (l.getD j 0 ^^^ b)) = moreN 4294967295 l := by
    unfold crcMore at h
    simp only [Nat.sub_zero] at h
    omega
  rw [more_turn b l _ j hj] at h3
  have h4 : stepsN (8 * (l.length - j)) b = 0 := by
    have h5 : moreN 4294967295 l ^^^ (moreN 4294967295 l ^^^ stepsN (8 * (l.length - j)) b) = moreN 4294967295 l ^^^ moreN 4294967295 l := by rw [h3]
    rwa [← Nat.xor_assoc, Nat.xor_self, Nat.zero_xor] at h5
  have := stepsN_zero _ b (by omega) h4
  omega

def b8 (l : List Nat) : List Value := l.map fun (n : Nat) => Value.int .u8 (n : Int)
theorem b8_at (l : List Nat) (j : Nat) (h : j < l.length) : (b8 l)[j]? = some (.int .u8 ((l.getD j 0 : Nat) : Int)) := by
  simp [b8, List.getElem?_map, List.getElem?_eq_getElem h, List.getD_eq_getElem?_getD]
theorem b8_one (l : List Nat) : ∀ u ∈ b8 l, u.oneCell' = true := by
  intro u hu; obtain ⟨x, _, rfl⟩ := List.mem_map.1 hu; rfl
theorem Row8.src {w : World} {a : Addr} {c : Nat} {l : List Nat} (h : Row8 w (.slice (some a) l.length c) l) : Src Tryd.prog 1 22 (.slice (some a) l.length c) l.length (b8 l) w := by
  obtain ⟨ao, c', hv, _, hc⟩ := h
  cases hv
  refine Src.ofSlice _ Tryd.underlying22 _ l.length c (b8 l) (by simp [b8]) (fun j u hu => ?_) (b8_one l)
  have hj : j < l.length := by have := (List.getElem?_eq_some_iff.1 hu).1; simpa [b8] using this
  obtain ⟨a', ha, hca⟩ := hc j hj
  cases ha
  rw [b8_at l j hj] at hu
  cases hu
  exact hca
theorem xor8 (a b : Nat) (ha : a < 256) (hb : b < 256) : bits .xor .u8 (a : Int) (b : Int) = ((a ^^^ b : Nat) : Int) := u8_xor_nat a b (by omega) (by omega)
/-- A new row of bytes, and one of them stored. -/
theorem row8_of_own {w : World} {g cap : Nat} {cur : Array Value} {l : List Nat} (hb : ∀ x ∈ l, x < 256) (hg : w.heap[g]? = some (.cells cur 5 (0, 0))) (ht : cur.toList.take l.length = b8 l) : Row8 w (.slice (some ⟨g, 0, none⟩) l.length cap) l := by
  refine ⟨some ⟨g, 0, none⟩, cap, rfl, hb, fun j hj => ⟨_, rfl, ?_⟩⟩
  have e : (⟨g, 0, none⟩ : Addr).add j = ⟨g, j, none⟩ := by unfold Addr.add; split <;> simp_all
  rw [e, cell_of_row _ _ j _ _ _ hg, ← b8_at l j hj, ← ht, List.getElem?_take, if_pos hj]
  simp
theorem own_set {w : World} {g j x : Nat} {cur : Array Value} {l : List Nat} (hg : w.heap[g]? = some (.cells cur 5 (0, 0))) (ht : cur.toList.take l.length = b8 l) :
    (w.setCell ⟨g, j, none⟩ (.int .u8 (x : Int))).heap[g]? = some (.cells (cur.setIfInBounds j (.int .u8 (x : Int))) 5 (0, 0)) ∧ (cur.setIfInBounds j (.int .u8 (x : Int))).toList.take (l.set j x).length = b8 (l.set j x) := by
  refine ⟨heap_setCell_same _ _ _ _ _ _ hg, ?_⟩
  rw [List.length_set]
  simp only [Array.toList_setIfInBounds, List.take_set, ht]
  simp [b8, List.map_set]
theorem b8_len (l : List Nat) : (b8 l).length = l.length := by simp [b8]
end Go.Proofs.YtanhdjdojeoodaaDoor
