/- Plain facts: what is read, put down again, is what was read. -/
import Derived.Test.YtkidbbmdlmnokaaL4
namespace Go.Proofs.Ytkidbbmdlmnokaa
open Go.RowKit
theorem lo_first_aux : ∀ b : Fin 256, (b.val : Int) = 256 - ((2 ^ (8 - lo (b.val : Int)) : Nat) : Int) + (b.val : Int) % ((2 ^ (7 - lo (b.val : Int)) : Nat) : Int) := by decide +kernel
theorem lo_first (b : Int) (h0 : 0 ≤ b) (h1 : b < 256) : b = 256 - ((2 ^ (8 - lo b) : Nat) : Int) + topV b (lo b) := by
  obtain ⟨n, rfl⟩ : ∃ n : Nat, b = n := ⟨b.toNat, by omega⟩
  exact lo_first_aux ⟨n, by omega⟩
theorem div256 (V x : Int) (j : Nat) (hx : 0 ≤ x ∧ x < 256) : (V * 256 + x) / ((256 ^ (j + 1) : Nat) : Int) = V / ((256 ^ j : Nat) : Int) := by
  have e : ((256 ^ (j + 1) : Nat) : Int) = 256 * ((256 ^ j : Nat) : Int) := by rw [Nat.pow_succ, Nat.mul_comm]; simp
  rw [e, ← Int.ediv_ediv_of_nonneg (by omega)]
  congr 1
  omega
theorem snocInd {p : List Int → Prop} (h0 : p []) (h1 : ∀ r x, p r → p (r ++ [x])) (bs : List Int) : p bs := by
  have h : ∀ r : List Int, p r.reverse := fun r => by
    induction r with
    | nil => exact h0
    | cons x r ih => rw [List.reverse_cons]; exact h1 _ _ ih
  have := h bs.reverse
  rwa [List.reverse_reverse] at this
theorem bigV_top (a : Int) (bs : List Int) (hb : ∀ x ∈ bs, 0 ≤ x ∧ x < 256) : bigV a bs / ((256 ^ bs.length : Nat) : Int) = a := by
  revert hb
  refine snocInd (p := fun bs => (∀ x ∈ bs, 0 ≤ x ∧ x < 256) → bigV a bs / ((256 ^ bs.length : Nat) : Int) = a) ?_ ?_ bs
  · intro _; simp [bigV]
  · intro r x ih hb
    rw [bigV_snoc, List.length_append]
    show _ / ((256 ^ (r.length + 1) : Nat) : Int) = a
    rw [div256 _ _ _ (hb x (by simp))]
    exact ih fun y hy => hb y (by simp [hy])
theorem bigV_byte (a : Int) (bs : List Int) (hb : ∀ x ∈ bs, 0 ≤ x ∧ x < 256) : (List.range bs.length).map (fun i => byteI (bigV a bs) (bs.length - 1 - i)) = bs := by
  revert hb
  refine snocInd (p := fun bs => (∀ x ∈ bs, 0 ≤ x ∧ x < 256) → (List.range bs.length).map (fun i => byteI (bigV a bs) (bs.length - 1 - i)) = bs) ?_ ?_ bs
  · intro _; rfl
  · intro r x ih hb
    have hx := hb x (by simp)
    rw [bigV_snoc, List.length_append]
    show (List.range (r.length + 1)).map _ = _
    rw [List.range_succ, List.map_append]
    congr 1
    · refine Eq.trans (List.map_congr_left fun i hi => ?_) (ih fun y hy => hb y (by simp [hy]))
      have hi' : i < r.length := by simpa using hi
      have e : r.length + [x].length - 1 - i = (r.length - 1 - i) + 1 := by simp; omega
      unfold byteI
      rw [e, div256 _ _ _ hx]
    · simp only [List.map_cons, List.map_nil, List.length_singleton]
      have e : r.length + 1 - 1 - r.length = 0 := by omega
      rw [e]
      unfold byteI
      simp
      omega
theorem look_num (l : List Int) (t n : Nat) (v : Int) (hb : ∀ x ∈ l, 0 ≤ x ∧ x < 256) (h : lookF l t = (v, n, 0)) :
    numB v = (l.drop t).take n ∧ 0 ≤ v ∧ v ≤ 18446744073709551615 ∧ 1 ≤ n ∧ n ≤ 9 ∧ t + n ≤ l.length := by
  unfold lookF at h
  by_cases h1 : l.length ≤ t
  · rw [if_pos h1] at h; simp at h
  rw [if_neg h1] at h
  by_cases h2 : l.length - t ≤ lo (l.getD t 0)
  · rw [if_pos h2] at h; simp at h
  rw [if_neg h2] at h
  have ht : t < l.length := by omega
  have hbm : l.getD t 0 ∈ l := by rw [List.getD_eq_getElem?_getD, List.getElem?_eq_getElem ht]; simp
  obtain ⟨b0, b1⟩ := hb _ hbm
  have hbs : ∀ x ∈ (l.drop (t + 1)).take (lo (l.getD t 0)), 0 ≤ x ∧ x < 256 := fun x hx => hb x (List.mem_of_mem_drop (List.mem_of_mem_take hx))
  have hbl : ((l.drop (t + 1)).take (lo (l.getD t 0))).length = lo (l.getD t 0) := by rw [List.length_take, List.length_drop]; omega
  have ll := lo_le (l.getD t 0)
  have hX := bigV_u64 (l.getD t 0) (lo (l.getD t 0)) _ ll (by omega) hbs
  have hoth := oth_big (l.getD t 0) (lo (l.getD t 0)) _ ll hbl hbs
  have htop := bigV_top (topV (l.getD t 0) (lo (l.getD t 0))) _ hbs
  have hbyte := bigV_byte (topV (l.getD t 0) (lo (l.getD t 0))) _ hbs
  rw [hbl] at htop hbyte
  by_cases h3 : oth (bigV (topV (l.getD t 0) (lo (l.getD t 0))) ((l.drop (t + 1)).take (lo (l.getD t 0)))) < lo (l.getD t 0)
  · rw [if_pos h3] at h; simp at h
  rw [if_neg h3] at h
  simp only [Prod.mk.injEq] at h
  obtain ⟨hv, hn, _⟩ := h
  rw [hv] at htop hbyte hX h3 hoth
  have ho : oth v = lo (l.getD t 0) := by omega
  refine ⟨?_, hX.1, hX.2, by omega, by omega, by omega⟩
  unfold numB restB firstB
  rw [ho, htop, hbyte, ← lo_first _ b0 b1, ← hn]
  have hd : l.drop t = l.getD t 0 :: l.drop (t + 1) := by
    rw [List.getD_eq_getElem?_getD, List.getElem?_eq_getElem ht]; simp
  rw [hd, Nat.add_comm 1, List.take_succ_cons]
end Go.Proofs.Ytkidbbmdlmnokaa
namespace Go.Proofs.Ytkidbbmdlmnokaa
open Go.RowKit
theorem look_fault (l : List Int) (t n : Nat) (v e : Int) (h : lookF l t = (v, n, e)) (he : e ≠ 0) : v = 0 ∧ n = 0 := by
  unfold lookF at h
  split at h
  · simp only [Prod.mk.injEq] at h; omega
  · split at h
    · simp only [Prod.mk.injEq] at h; omega
    · split at h
      · simp only [Prod.mk.injEq] at h; omega
      · simp only [Prod.mk.injEq] at h; omega
end Go.Proofs.Ytkidbbmdlmnokaa
