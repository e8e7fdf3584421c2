/- The walk of 'FrameTells'. -/
import Derived.Test.YtmmaickpkpkajaaDoorF8
namespace Go.Proofs.YtmmaickpkpkajaaDoor
open Go.RowKit
attribute [local go_sem ↓] Go.wp_at_zero Go.wp_at_succ

theorem more_turn (b : Nat) : ∀ (l : List Nat) (s j : Nat), j < l.length → moreN s (l.set j (l.getD j 0 ^^^ b)) = moreN s l ^^^ stepsN (8 * (l.length - j)) b := by
  intro l
  induction l with
  | nil => intro s j h; exact absurd h (by simp)
  | cons x r ih =>
    intro s j h
    cases j with
    | zero =>
      show moreN (stepsN 8 (s ^^^ (x ^^^ b))) r = moreN (stepsN 8 (s ^^^ x)) r ^^^ _
      rw [← Nat.xor_assoc, stepsN_xor, moreN_xor, ← stepsN_add]
      congr 2
      simp; omega
    | succ j =>
      have := ih (stepsN 8 (s ^^^ x)) j (by simpa using h)
      show moreN (stepsN 8 (s ^^^ x)) (r.set j (r.getD j 0 ^^^ b)) = moreN (stepsN 8 (s ^^^ x)) r ^^^ _
      rw [this]
      congr 2
      simp
theorem set_lt {l : List Nat} {B j x : Nat} (hb : ∀ y ∈ l, y < B) (hx : x < B) : ∀ y ∈ l.set j x, y < B := by
  intro y hy
  rcases List.mem_or_eq_of_mem_set hy with h | rfl
  · exact hb y h
  · exact hx
theorem tells (s : Nat) (l : List Nat) (j b : Nat) (hl : ∀ x ∈ l, x < 256) (hj : j < l.length) (h0 : 0 < b) (hb : b < 256) : crcMore s (l.set j (l.getD j 0 ^^^ b)) ≠ crcMore s l := by
  intro h
  have hx : l.getD j 0 ^^^ b < 256 := Nat.xor_lt_two_pow (n := 8) (getD_lt hl hj) hb
  have h1 := moreN_lt (4294967295 - s) l (by omega) hl
  have h2 := moreN_lt (4294967295 - s) _ (by omega) (set_lt hl hx (j := j))
  have h3 : moreN (4294967295 - s) (l.set j (l.getD j 0 ^^^ b)) = moreN (4294967295 - s) l := by
    unfold crcMore at h
    omega
  rw [more_turn b l _ j hj] at h3
  have h4 : stepsN (8 * (l.length - j)) b = 0 := by
    have h5 : moreN (4294967295 - s) l ^^^ (moreN (4294967295 - s) l ^^^ stepsN (8 * (l.length - j)) b) = moreN (4294967295 - s) l ^^^ moreN (4294967295 - s) l := by rw [h3]
    rwa [← Nat.xor_assoc, Nat.xor_self, Nat.zero_xor] at h5
  have := stepsN_zero _ b (by omega) h4
  omega
theorem xor8 (a b : Nat) (ha : a < 256) (hb : b < 256) : bits .xor .u8 (a : Int) (b : Int) = ((a ^^^ b : Nat) : Int) := u8_xor_nat a b (by omega) (by omega)
theorem b8_set (l : List Nat) (j x : Nat) : b8 (l.set j x) = (b8 l).set j (.int .u8 (x : Int)) := by simp [b8, List.map_set]
theorem owns_set {w : World} {base : Nat} {E : TypeId} {g n cap : Nat} {xs : List Value} (h : w.ownsRow base E 1 (.slice (some ⟨g, 0, none⟩) n cap) n xs) (j : Nat) (u : Value) :
    (w.setCell ⟨g, j, none⟩ u).ownsRow base E 1 (.slice (some ⟨g, 0, none⟩) n cap) n (xs.set j u) := by
  refine ⟨by simpa using h.1, ?_⟩
  rcases h.2 with ⟨e, _⟩ | ⟨g', cap', cur, e, hb, hg, hn, hm, hs, ht⟩
  · cases e
  · injection e with e1 e2 e3
    injection e1 with e1
    injection e1 with e1
    subst e1
    subst e3
    refine .inr ⟨g, cap, cur.setIfInBounds j u, rfl, hb, ?_, hn, hm, by simpa using hs, ?_⟩
    · simp [World.setCell, Array.getElem?_modify, hg]
    · rw [← ht]
      simp [List.take_set]

/-- A head, four bytes, a payload, and something behind. -/
theorem parts_first (l s4 l2 r : List Nat) (hs : s4.length = 4) (hl2 : l2.length = l.length) (hl : l.length ≤ 65536) (hne : crcMore (crcMore 0 (headL l)) l2 ≠ numL s4) :
    firstE (headL l ++ s4 ++ l2 ++ r) = 5 := by
  have hc : headL l ++ s4 ++ l2 ++ r = 165 :: (fourL l.length ++ (s4 ++ (l2 ++ r))) := by simp [headL]
  have hd1 : ((headL l ++ s4 ++ l2 ++ r).drop 1).take 4 = fourL l.length := by
    rw [hc]
    show ((fourL l.length ++ (s4 ++ (l2 ++ r)))).take 4 = _
    rw [List.take_append_of_le_length (by rw [fourL_len]; omega)]; rfl
  have hd5 : (headL l ++ s4 ++ l2 ++ r).drop 5 = s4 ++ (l2 ++ r) := by rw [hc]; rfl
  have hd9 : (headL l ++ s4 ++ l2 ++ r).drop 9 = l2 ++ r := by
    rw [show (9 : Nat) = 5 + 4 by omega, ← List.drop_drop, hd5, ← hs]; simp
  have hsz : sizeL (headL l ++ s4 ++ l2 ++ r) = l.length := by unfold sizeL; rw [hd1, num_four _ (by omega)]
  have hp : payL (headL l ++ s4 ++ l2 ++ r) = l2 := by unfold payL; rw [hsz, hd9, ← hl2]; simp
  have hw : wantL (headL l ++ s4 ++ l2 ++ r) = numL s4 := by
    unfold wantL; rw [hd5, List.take_append_of_le_length (by omega), ← hs, List.take_length]
  have h5 : (headL l ++ s4 ++ l2 ++ r).take 5 = headL l := by rw [hc]; rfl
  have h1 : (headL l ++ s4 ++ l2 ++ r).getD 0 0 = 165 := by rw [hc]; rfl
  have hln : (headL l ++ s4 ++ l2 ++ r).length = 9 + l.length + r.length := by simp [headL_len, hs, hl2]; omega
  unfold firstE
  rw [hln, hsz, hp, h5, hw, h1, if_neg (by omega), if_neg (by omega), if_neg (by omega), if_neg (by omega), if_neg (by omega), if_pos hne]
theorem four_turn (s4 : List Nat) (hs : s4.length = 4) (hb : ∀ x ∈ s4, x < 256) (j y : Nat) (hj : j < 4) (_hy : y < 256) (hne : y ≠ s4.getD j 0) : numL (s4.set j y) ≠ numL s4 := by
  obtain ⟨a, b, c, d, rfl⟩ : ∃ a b c d, s4 = [a, b, c, d] := by
    match s4, hs with
    | [a, b, c, d], _ => exact ⟨a, b, c, d, rfl⟩
  have ha := hb a (by simp)
  have hb' := hb b (by simp)
  have hc := hb c (by simp)
  have hd := hb d (by simp)
  have h4 : j = 0 ∨ j = 1 ∨ j = 2 ∨ j = 3 := by omega
  rcases h4 with rfl | rfl | rfl | rfl <;> simp [numL] at hne ⊢ <;> omega
theorem xor_ne (x b : Nat) (h0 : 0 < b) : x ^^^ b ≠ x := by
  intro h
  have h5 : x ^^^ (x ^^^ b) = x ^^^ x := by rw [h]
  rw [← Nat.xor_assoc, Nat.xor_self, Nat.zero_xor] at h5
  omega
theorem frame_turn (l r : List Nat) (k b : Nat) (hl : l.length ≤ 65536) (hb : ∀ x ∈ l, x < 256) (h5 : 5 ≤ k) (hk : k < 9 + l.length) (h0 : 0 < b) (hb8 : b < 256) :
    firstE ((frameL l).set k ((frameL l).getD k 0 ^^^ b) ++ r) = 5 := by
  have hF : frameL l = headL l ++ fourL (sumL l) ++ l := rfl
  have hy : (frameL l).getD k 0 ^^^ b < 256 := Nat.xor_lt_two_pow (n := 8) (getD_lt (frameL_lt l hb) (by rw [frameL_len]; exact hk)) hb8
  by_cases h9 : k < 9
  · have hg : (frameL l).getD k 0 = (fourL (sumL l)).getD (k - 5) 0 := by
      rw [hF]
      simp only [List.getD_eq_getElem?_getD]
      rw [List.getElem?_append_left (by simp [headL_len, fourL_len]; omega), List.getElem?_append_right (by rw [headL_len]; omega), headL_len]
    have hset : (frameL l).set k ((frameL l).getD k 0 ^^^ b) = headL l ++ (fourL (sumL l)).set (k - 5) ((frameL l).getD k 0 ^^^ b) ++ l := by
      generalize (frameL l).getD k 0 ^^^ b = y
      rw [hF, List.set_append_left _ _ (by simp [headL_len, fourL_len]; omega), List.set_append_right _ _ (by rw [headL_len]; omega), headL_len]
    rw [hset]
    refine parts_first l _ l r (by rw [List.length_set, fourL_len]) rfl hl ?_
    have hn := four_turn (fourL (sumL l)) rfl (fourL_lt _) (k - 5) _ (by omega) hy (by rw [hg]; exact xor_ne _ _ h0)
    rw [num_four _ (sumL_lt l)] at hn
    exact fun h => hn h.symm
  · have hg : (frameL l).getD k 0 = l.getD (k - 9) 0 := by
      rw [hF]
      simp only [List.getD_eq_getElem?_getD]
      rw [List.getElem?_append_right (by simp [headL_len, fourL_len]; omega)]
      congr 2
    have hset : (frameL l).set k ((frameL l).getD k 0 ^^^ b) = headL l ++ fourL (sumL l) ++ l.set (k - 9) (l.getD (k - 9) 0 ^^^ b) := by
      rw [hg]
      generalize l.getD (k - 9) 0 ^^^ b = y
      rw [hF, List.set_append_right _ _ (by simp [headL_len, fourL_len]; omega)]
      congr 2
    rw [hset]
    refine parts_first l _ _ r rfl (by simp) hl ?_
    rw [num_four _ (sumL_lt l)]
    exact tells _ l (k - 9) b hb (by omega) h0 hb8
end Go.Proofs.YtmmaickpkpkajaaDoor
