/- Plain facts: what was put down is what is read. -/
import Derived.Test.YtkidbbmdlmnokaaQ5
namespace Go.Proofs.Ytkidbbmdlmnokaa
open Go.RowKit

theorem first_aux : ∀ k : Fin 9, ∀ z : Fin 128, z.val < 2 ^ (7 - k.val) → lo (256 - ((2 ^ (8 - k.val) : Nat) : Int) + (z.val : Int)) = k.val ∧ topV (256 - ((2 ^ (8 - k.val) : Nat) : Int) + (z.val : Int)) k.val = (z.val : Int) := by decide +kernel
theorem top_lt (v : Int) (h0 : 0 ≤ v) (h1 : v ≤ 18446744073709551615) : 0 ≤ v / ((256 ^ oth v : Nat) : Int) ∧ v / ((256 ^ oth v : Nat) : Int) < ((2 ^ (7 - oth v) : Nat) : Int) := by
  have hk := oth_le v
  have hp : (0 : Int) < ((256 ^ oth v : Nat) : Int) := by have := Nat.pow_pos (n := oth v) (show 0 < 256 by decide); omega
  refine ⟨Int.ediv_nonneg h0 (by omega), ?_⟩
  by_cases h : oth v < 8
  · have he := oth_end v (oth v) rfl h
    generalize oth v = k at *
    obtain rfl | rfl | rfl | rfl | rfl | rfl | rfl | rfl : k = 0 ∨ k = 1 ∨ k = 2 ∨ k = 3 ∨ k = 4 ∨ k = 5 ∨ k = 6 ∨ k = 7 := by omega
    all_goals
      simp only [Nat.reduceMul, Nat.reduceAdd, Nat.reduceSub, Nat.reducePow] at he ⊢
      omega
  · have h8 : oth v = 8 := by omega
    rw [h8]
    simp only [Nat.reduceSub, Nat.reducePow]
    omega
theorem first_lo (v : Int) (h0 : 0 ≤ v) (h1 : v ≤ 18446744073709551615) : lo (firstB v (oth v)) = oth v ∧ topV (firstB v (oth v)) (oth v) = v / ((256 ^ oth v : Nat) : Int) ∧ 0 ≤ firstB v (oth v) ∧ firstB v (oth v) < 256 := by
  obtain ⟨z0, z1⟩ := top_lt v h0 h1
  have hk := oth_le v
  obtain ⟨z, hz⟩ : ∃ z : Nat, v / ((256 ^ oth v : Nat) : Int) = z := ⟨(v / ((256 ^ oth v : Nat) : Int)).toNat, by omega⟩
  unfold firstB
  rw [hz] at z1 ⊢
  have zk : z < 2 ^ (7 - oth v) := by omega
  have h2 : 2 ^ (7 - oth v) ≤ 2 ^ 7 := Nat.pow_le_pow_right (by omega) (by omega)
  have z128 : z < 128 := by omega
  have := first_aux ⟨oth v, by omega⟩ ⟨z, z128⟩ zk
  refine ⟨this.1, this.2, ?_, ?_⟩
  · have h3 : 2 ^ (8 - oth v) ≤ 2 ^ 8 := Nat.pow_le_pow_right (by omega) (by omega)
    have h4 : (2 : Nat) ^ 8 = 256 := rfl
    omega
  · have h3 : 2 ^ (7 - oth v) ≤ 2 ^ (8 - oth v) := Nat.pow_le_pow_right (by omega) (by omega)
    have h4 : 0 < 2 ^ (8 - oth v) := Nat.two_pow_pos _
    omega
theorem byteI_range (v : Int) (j : Nat) : 0 ≤ byteI v j ∧ byteI v j < 256 := by unfold byteI; omega
theorem bigV_rest (v : Int) (k j : Nat) (hj : j ≤ k) : bigV (v / ((256 ^ k : Nat) : Int)) (restB v k j) = v / ((256 ^ (k - j) : Nat) : Int) := by
  induction j with
  | zero => simp [restB, bigV]
  | succ j ih =>
    rw [restB_succ, bigV_snoc, ih (by omega)]
    obtain ⟨m, hm⟩ : ∃ m, k - j = m + 1 := ⟨k - j - 1, by omega⟩
    have e1 : k - 1 - j = m := by omega
    have e2 : k - (j + 1) = m := by omega
    rw [hm, e1, e2]
    unfold byteI
    have e3 : ((256 ^ (m + 1) : Nat) : Int) = ((256 ^ m : Nat) : Int) * 256 := by rw [Nat.pow_succ, Int.natCast_mul]; rfl
    rw [e3, ← Int.ediv_ediv_of_nonneg (Int.natCast_nonneg _)]
    omega
theorem lookF_numB (l rest : List Int) (t : Nat) (v : Int) (h0 : 0 ≤ v) (h1 : v ≤ 18446744073709551615) (h : l.drop t = numB v ++ rest) : lookF l t = (v, 1 + oth v, 0) := by
  obtain ⟨f1, f2, f3, f4⟩ := first_lo v h0 h1
  have hlen : l.length - t = 1 + oth v + rest.length := by
    have := congrArg List.length h
    rw [List.length_drop, List.length_append, numB_length] at this; exact this
  have hg : l.getD t 0 = firstB v (oth v) := by
    have : (l.drop t)[0]? = some (firstB v (oth v)) := by rw [h]; rfl
    rw [List.getElem?_drop] at this
    rw [List.getD_eq_getElem?_getD]
    simp only [Nat.add_zero] at this
    rw [this]; rfl
  have hr : (l.drop (t + 1)).take (oth v) = restB v (oth v) (oth v) := by
    rw [← List.drop_drop, h]
    have e : numB v ++ rest = firstB v (oth v) :: (restB v (oth v) (oth v) ++ rest) := rfl
    rw [e, List.drop_succ_cons, List.drop_zero, List.take_append_of_le_length (by rw [restB_length]; omega), List.take_of_length_le (by rw [restB_length]; omega)]
  have hb : bigV (v / ((256 ^ oth v : Nat) : Int)) (restB v (oth v) (oth v)) = v := by rw [bigV_rest v _ _ (Nat.le_refl _)]; simp
  unfold lookF
  rw [if_neg (by omega), hg, f1, f2, if_neg (by omega), hr, hb, if_neg (by omega)]

/-- A fixed number's value. -/
def leV (bs : List Int) : Nat → Int
  | 0 => 0
  | k + 1 => leV bs k + bs.getD k 0 * ((256 ^ k : Nat) : Int)
def hiV (bs : List Int) : Nat → Int
  | 0 => 0
  | k + 1 => 256 * hiV bs k + bs.getD (7 - k) 0
theorem hiV_leV (bs : List Int) : hiV bs 8 = leV bs 8 := by
  simp only [hiV, leV, Nat.reduceSub, Nat.reducePow]
  omega
theorem leV_range (bs : List Int) (hb : ∀ x ∈ bs, 0 ≤ x ∧ x < 256) (k : Nat) : 0 ≤ leV bs k ∧ leV bs k < ((256 ^ k : Nat) : Int) := by
  induction k with
  | zero => simp [leV]
  | succ k ih =>
    have hd : 0 ≤ bs.getD k 0 ∧ bs.getD k 0 ≤ 255 := by
      rw [List.getD_eq_getElem?_getD]
      cases h : bs[k]? with
      | none => simp
      | some x => have := hb x (List.mem_of_getElem? h); simp; omega
    unfold leV
    obtain ⟨P, hP⟩ : ∃ P : Int, P = ((256 ^ k : Nat) : Int) := ⟨_, rfl⟩
    have e : ((256 ^ (k + 1) : Nat) : Int) = P * 256 := by rw [Nat.pow_succ, Int.natCast_mul, hP]; rfl
    rw [← hP] at ih ⊢
    rw [e]
    have p0 : 0 ≤ P := by omega
    have m1 : 0 ≤ bs.getD k 0 * P := Int.mul_nonneg hd.1 p0
    have m2 : bs.getD k 0 * P ≤ 255 * P := Int.mul_le_mul_of_nonneg_right hd.2 p0
    omega
theorem leV_fix (v : Int) (h0 : 0 ≤ v) (k : Nat) (bs : List Int) (hk : ∀ j, j < k → bs.getD j 0 = byteI v j) : leV bs k = v % ((256 ^ k : Nat) : Int) := by
  induction k with
  | zero => simp [leV]
  | succ k ih =>
    unfold leV
    rw [ih (fun j hj => hk j (by omega)), hk k (by omega)]
    obtain ⟨n, rfl⟩ : ∃ n : Nat, v = n := ⟨v.toNat, by omega⟩
    unfold byteI
    have := Nat.mod_mul (x := n) (a := 256 ^ k) (b := 256)
    rw [Nat.pow_succ]
    have h2 : ((n % (256 ^ k * 256) : Nat) : Int) = ((n % 256 ^ k + 256 ^ k * (n / 256 ^ k % 256) : Nat) : Int) := by rw [this]
    rw [Int.natCast_emod] at h2
    rw [h2, Int.natCast_add, Int.natCast_mul, Int.natCast_emod, Int.natCast_emod, Int.natCast_ediv, Int.mul_comm (((n : Int) / ((256 ^ k : Nat) : Int)) % 256)]
    rfl
theorem leV_fixB (v : Int) (h0 : 0 ≤ v) (h1 : v ≤ 18446744073709551615) : leV (fixB v) 8 = v := by
  rw [leV_fix v h0 8 _ (fun j hj => by
    unfold fixB fixK
    rw [List.getD_eq_getElem?_getD, List.getElem?_map, List.getElem?_range hj]; rfl)]
  simp only [Nat.reducePow]; omega
theorem or_shift (V c : Int) (i : Nat) (hi : i < 8) (h0 : 0 ≤ V) (h1 : V < ((256 ^ i : Nat) : Int)) (c0 : 0 ≤ c) (c1 : c < 256) :
    IntKind.u64.wrap (c * ((256 ^ i : Nat) : Int)) = c * ((256 ^ i : Nat) : Int) ∧ bits .or .u64 V (c * ((256 ^ i : Nat) : Int)) = V + c * ((256 ^ i : Nat) : Int) := by
  obtain ⟨a, rfl⟩ : ∃ a : Nat, V = a := ⟨V.toNat, by omega⟩
  obtain ⟨d, rfl⟩ : ∃ d : Nat, c = d := ⟨c.toNat, by omega⟩
  have hp : 256 ^ i = 2 ^ (8 * i) := by rw [Nat.pow_mul]
  have h7 : 256 ^ i ≤ 256 ^ 7 := Nat.pow_le_pow_right (by decide) (by omega)
  have h8 : (256 : Nat) ^ 7 = 72057594037927936 := by decide
  have hm : d * 256 ^ i ≤ 255 * 256 ^ i := Nat.mul_le_mul_right _ (by omega)
  have ea : a < 256 ^ i := by omega
  have e1 : (d : Int) * ((256 ^ i : Nat) : Int) = ((d * 256 ^ i : Nat) : Int) := by rw [Int.natCast_mul]
  rw [e1]
  refine ⟨wrap_u64_of _ (by omega) (by omega), ?_⟩
  rw [u64_or _ _ (by omega) (by omega) (by omega) (by omega), Int.toNat_natCast, Int.toNat_natCast, Nat.or_comm, nat_join (8 * i) _ _ (by rw [hp]; exact Nat.mul_mod_left _ _) (by rw [← hp]; exact ea)]
  omega

/-- A slice of bytes, as a text. -/
theorem SliceAt.run_str {P : Program} {w : World} {v : Value} {ao : Option Addr} {c : Nat} {l : List Int} (h : SliceAt w v ao l.length c (u8s l)) (src e dst : TypeId) (hs : P.underlying src = some (.slice e)) (he : P.underlying e = some (.int .u8)) (hd : P.underlying dst = some .string) :
    (convert src dst v).run P w = .ok (.string (strOfNums l)) w := by
  obtain rfl := h.val
  rcases Nat.eq_zero_or_pos l.length with h0 | h0
  · obtain rfl : l = [] := List.eq_nil_of_length_eq_zero h0
    cases ao with
    | none => exact run_convert_bytes_nil w src e hs he 0 c dst hd
    | some a =>
      rw [run_convert_bytes_string w src dst e _ _ c hs he hd]
      simp [Conv.bytesToString, loadCells, loadCellsFrom]
      rfl
  · obtain ⟨g, off, rfl, hc⟩ := h.addr h0
    exact run_convert_bytes_arg w src e hs he g off l.length c l rfl hc dst hd
theorem wown_base {w : World} {B B' : Nat} {E : TypeId} {s n : Nat} {v : Value} {xs : List Value} (h : w.ownsRow B E s v n xs) (hb : B' ≤ B) : w.ownsRow B' E s v n xs := by
  refine ⟨h.1, ?_⟩
  rcases h.2 with h0 | ⟨g, cap, cur, e, hg, rest⟩
  · exact .inl h0
  · exact .inr ⟨g, cap, cur, e, Nat.le_trans hb hg, rest⟩
theorem nextF_taken (l : List Int) (t : Nat) (e n : Int) (ht : t ≤ l.length) : t + (nextF l t e n).2.1 ≤ l.length := by
  unfold nextF
  split
  · simpa using ht
  · split
    · simpa using ht
    · split
      · simpa using ht
      · simp only; omega
theorem nextF_len (l : List Int) (t : Nat) (e n : Int) : (nextF l t e n).1.length ≤ l.length := by
  unfold nextF
  split
  · simp
  · split
    · simp
    · split
      · simp
      · simp only [List.length_take, List.length_drop]; omega
end Go.Proofs.Ytkidbbmdlmnokaa
