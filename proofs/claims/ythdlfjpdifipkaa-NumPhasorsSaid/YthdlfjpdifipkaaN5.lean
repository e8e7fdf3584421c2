/- Plain facts on rounding: what is cut off by halves to even; rungs; what comes of a sum whose last bit tells whether something went out. -/
import Derived.Test.YthdlfjpdifipkaaN3
namespace Go.Proofs.Ythdlfjpdifipkaa

/-- n / 2^d, to the nearest, and between two to the even one. -/
def evenCut (n d : Nat) : Nat := n / 2 ^ d + (if 2 ^ d < 2 * (n % 2 ^ d) ∨ (2 ^ d = 2 * (n % 2 ^ d) ∧ n / 2 ^ d % 2 = 1) then 1 else 0)
theorem cut_even (neg : Bool) (n d : Nat) : Ieee.Toward.even.cut neg n d = evenCut n d := by
  unfold Ieee.Toward.cut evenCut
  simp only [Nat.one_shiftLeft]
  by_cases h : d ≤ n.log2 + 2
  · rw [Nat.min_eq_left h]
    by_cases h1 : 2 ^ d < 2 * (n % 2 ^ d)
    · rw [if_pos (Or.inl h1)]; simp [h1]
    · by_cases h2 : 2 ^ d = 2 * (n % 2 ^ d) ∧ n / 2 ^ d % 2 = 1
      · rw [if_pos (Or.inr h2)]; simp [← h2.1, h2.2]
      · rw [if_neg (fun x => x.elim h1 h2)]
        have h3 : ((2 ^ d == 2 * (n % 2 ^ d)) && (n / 2 ^ d % 2 == 1)) = false := by
          rw [Bool.and_eq_false_iff]
          by_cases h4 : 2 ^ d = 2 * (n % 2 ^ d)
          · exact .inr (beq_eq_false_iff_ne.2 fun h5 => h2 ⟨h4, h5⟩)
          · exact .inl (beq_eq_false_iff_ne.2 h4)
        rw [h3]; simp [h1]
  · rw [Nat.min_eq_right (by omega)]
    have hlt : n < 2 ^ (n.log2 + 1) := Nat.lt_log2_self
    have hp : 2 ^ (n.log2 + 2) = 2 * 2 ^ (n.log2 + 1) := by rw [Nat.pow_succ 2 (n.log2 + 1), Nat.mul_comm]
    have hd : 2 ^ (n.log2 + 2) ≤ 2 ^ d := Nat.pow_le_pow_right (by omega) (by omega)
    rw [Nat.div_eq_of_lt (by omega), Nat.mod_eq_of_lt (by omega), Nat.div_eq_of_lt (show n < 2 ^ d by omega), Nat.mod_eq_of_lt (show n < 2 ^ d by omega), if_neg (by omega)]
    have h1 : ¬ 2 ^ (n.log2 + 2) < 2 * n := by omega
    have h2 : (2 ^ (n.log2 + 2) == 2 * n) = false := beq_eq_false_iff_ne.2 (by omega)
    rw [h2]; simp [h1]
theorem evenCut_scale (n d j : Nat) : evenCut (n * 2 ^ j) (d + j) = evenCut n d := by
  unfold evenCut
  have hp : 0 < 2 ^ j := Nat.two_pow_pos j
  rw [Nat.pow_add, Nat.mul_div_mul_right _ _ hp, Nat.mul_mod_mul_right]
  have h1 : (2 ^ d * 2 ^ j < 2 * (n % 2 ^ d * 2 ^ j)) ↔ (2 ^ d < 2 * (n % 2 ^ d)) := by
    rw [← Nat.mul_assoc]; exact Nat.mul_lt_mul_right hp
  have h2 : (2 ^ d * 2 ^ j = 2 * (n % 2 ^ d * 2 ^ j)) ↔ (2 ^ d = 2 * (n % 2 ^ d)) := by
    rw [← Nat.mul_assoc]; exact ⟨fun h => Nat.eq_of_mul_eq_mul_right hp h, fun h => congrArg (· * 2 ^ j) h⟩
  simp only [h1, h2]
/-- What is told of N by X: it is X times 2^d, or X is odd and N lies beside it. -/
def Told (X N d : Nat) : Prop := N = X * 2 ^ d ∨ (X % 2 = 1 ∧ (X - 1) * 2 ^ d < N ∧ N < (X + 1) * 2 ^ d)
theorem evenCut_told (X N d k : Nat) (h : Told X N d) (hk : 2 ≤ k) : evenCut N (k + d) = evenCut X k := by
  rcases h with rfl | ⟨ho, h1, h2⟩
  · exact evenCut_scale X k d
  · obtain ⟨D, hD⟩ : ∃ D, D = 2 ^ d := ⟨_, rfl⟩
    have hD0 : 0 < D := by rw [hD]; exact Nat.two_pow_pos d
    obtain ⟨H, hH⟩ : ∃ H, H = 2 ^ (k - 2) := ⟨_, rfl⟩
    have hK : 2 ^ k = 4 * H := by
      rw [hH, show k = (k - 2) + 2 by omega, Nat.pow_add, Nat.mul_comm]; simp
    have hH0 : 0 < H := by rw [hH]; exact Nat.two_pow_pos _
    obtain ⟨q, hq⟩ : ∃ q, q = X / (4 * H) := ⟨_, rfl⟩
    obtain ⟨r, hr⟩ : ∃ r, r = X % (4 * H) := ⟨_, rfl⟩
    have hX : X = 4 * H * q + r := by rw [hq, hr]; exact (Nat.div_add_mod X (4 * H)).symm
    have hrl : r < 4 * H := by rw [hr]; exact Nat.mod_lt _ (by omega)
    have hro : r % 2 = 1 := by
      have e : X = 2 * (2 * H * q) + r := by rw [hX]; congr 1; rw [← Nat.mul_assoc, ← Nat.mul_assoc]
      omega
    rw [← hD] at h1 h2
    have e1 : (X - 1) * D = 4 * H * q * D + (r - 1) * D := by rw [← Nat.add_mul]; congr 1; omega
    have e2 : (X + 1) * D = 4 * H * q * D + (r + 1) * D := by rw [← Nat.add_mul]; congr 1; omega
    rw [e1] at h1
    rw [e2] at h2
    obtain ⟨R, hR⟩ : ∃ R, N = 4 * H * D * q + R := ⟨N - 4 * H * D * q, by
      have : 4 * H * D * q = 4 * H * q * D := by rw [Nat.mul_right_comm]
      omega⟩
    have hc : 4 * H * q * D = 4 * H * D * q := Nat.mul_right_comm _ _ _
    rw [hR, hc] at h1 h2
    have g1 : (r - 1) * D < R := by omega
    have g2 : R < (r + 1) * D := by omega
    have g3 : (r + 1) * D ≤ 4 * H * D := Nat.mul_le_mul_right D (by omega)
    have hdiv : N / (4 * H * D) = q := by
      rw [hR, Nat.mul_add_div (by exact Nat.mul_pos (by omega) hD0), Nat.div_eq_of_lt (by omega), Nat.add_zero]
    have hmod : N % (4 * H * D) = R := by rw [hR, Nat.mul_add_mod, Nat.mod_eq_of_lt (by omega)]
    unfold evenCut
    rw [Nat.pow_add, hK, ← hD, hdiv, hmod, ← hq, ← hr]
    congr 1
    by_cases hc2 : r < 2 * H
    · have g4 : (r + 1) * D ≤ 2 * H * D := Nat.mul_le_mul_right D (by omega)
      have g5 : 4 * H * D = 2 * (2 * H * D) := by rw [← Nat.mul_assoc, ← Nat.mul_assoc]
      rw [if_neg (by omega), if_neg (by omega)]
    · have g4 : 2 * H * D ≤ (r - 1) * D := Nat.mul_le_mul_right D (by omega)
      have g5 : 4 * H * D = 2 * (2 * H * D) := by rw [← Nat.mul_assoc, ← Nat.mul_assoc]
      rw [if_pos (by omega), if_pos (by omega)]

/-- The rung of X times 2^(e - 1078). -/
def nearX (X e : Nat) : Nat := min ((max 1 (e + X.log2 - 55) - 1) * 4503599627370496 + evenCut (X * 2 ^ e) (max 1 (e + X.log2 - 55) + 3)) 9218868437227405312
theorem log2_scale (X d : Nat) (h : 0 < X) : (X * 2 ^ d).log2 = X.log2 + d := by
  have hp : 0 < 2 ^ d := Nat.two_pow_pos d
  have h1 : 2 ^ X.log2 ≤ X := Nat.log2_self_le (by omega)
  have h2 : X < 2 ^ (X.log2 + 1) := Nat.lt_log2_self
  rw [Nat.log2_eq_iff (by have := Nat.mul_pos h hp; omega)]
  refine ⟨?_, ?_⟩
  · rw [Nat.pow_add]; exact Nat.mul_le_mul_right _ h1
  · rw [show X.log2 + d + 1 = (X.log2 + 1) + d by omega, Nat.pow_add]; exact Nat.mul_lt_mul_of_pos_right h2 hp
theorem nearX_scale (X d f : Nat) (h : 0 < X) : nearX (X * 2 ^ d) f = nearX X (f + d) := by
  unfold nearX
  rw [log2_scale X d h, show f + (X.log2 + d) = f + d + X.log2 by omega, Nat.mul_assoc, ← Nat.pow_add, Nat.add_comm d f]
theorem told_log2 (X N d : Nat) (h : Told X N d) (hX : 2 ≤ X) : N.log2 = X.log2 + d := by
  rcases h with rfl | ⟨ho, h1, h2⟩
  · exact log2_scale X d (by omega)
  · have a1 : 2 ^ X.log2 ≤ X := Nat.log2_self_le (by omega)
    have a2 : X < 2 ^ (X.log2 + 1) := Nat.lt_log2_self
    have hl : 1 ≤ X.log2 := (Nat.le_log2 (by omega)).2 (by omega)
    have he : 2 ^ X.log2 = 2 * 2 ^ (X.log2 - 1) := by rw [show X.log2 = (X.log2 - 1) + 1 by omega, Nat.pow_succ, Nat.mul_comm]; simp
    have he2 : 2 ^ (X.log2 + 1) = 2 * 2 ^ X.log2 := by rw [Nat.pow_succ, Nat.mul_comm]
    rw [Nat.log2_eq_iff (by omega)]
    refine ⟨?_, ?_⟩
    · rw [Nat.pow_add]
      have : 2 ^ X.log2 * 2 ^ d ≤ (X - 1) * 2 ^ d := Nat.mul_le_mul_right _ (by omega)
      omega
    · rw [show X.log2 + d + 1 = (X.log2 + 1) + d by omega, Nat.pow_add]
      have : (X + 1) * 2 ^ d ≤ 2 ^ (X.log2 + 1) * 2 ^ d := Nat.mul_le_mul_right _ (by omega)
      omega
theorem nearX_told (X N d f : Nat) (h : Told X N d) (hX : N = X * 2 ^ d ∨ 18014398509481984 ≤ X) (h0 : 0 < X) : nearX N f = nearX X (f + d) := by
  by_cases he : N = X * 2 ^ d
  · rw [he]; exact nearX_scale X d f h0
  · have hb : 18014398509481984 ≤ X := hX.resolve_left he
    have hl : 54 ≤ X.log2 := (Nat.le_log2 (by omega)).2 (by omega)
    unfold nearX
    rw [told_log2 X N d h (by omega), show f + (X.log2 + d) = f + d + X.log2 by omega]
    obtain ⟨E, hE⟩ : ∃ E, E = max 1 (f + d + X.log2 - 55) := ⟨_, rfl⟩
    rw [← hE]
    have hE2 : f + d ≤ E + 1 := by omega
    have e1 : evenCut (N * 2 ^ f) (E + 3) = evenCut N (E + 3 - f) := by
      have := evenCut_scale N (E + 3 - f) f
      rwa [show E + 3 - f + f = E + 3 by omega] at this
    have e2 : evenCut (X * 2 ^ (f + d)) (E + 3) = evenCut X (E + 3 - (f + d)) := by
      have := evenCut_scale X (E + 3 - (f + d)) (f + d)
      rwa [show E + 3 - (f + d) + (f + d) = E + 3 by omega] at this
    have e3 := evenCut_told X N d (E + 3 - (f + d)) h (by omega)
    rw [show E + 3 - (f + d) + d = E + 3 - f by omega] at e3
    rw [e1, e2, e3]
theorem nearest_nearX (neg : Bool) (X e : Nat) (h : 0 < X) : Ieee.double.nearest neg X ((e : Int) - 1078) = Ieee.double.word neg (nearX X e) := by
  unfold Ieee.Format.nearest
  rw [if_neg (by omega)]
  have hb : Ieee.double.binade = 4503599627370496 := by decide
  have hi : Ieee.double.infRung = 9218868437227405312 := by decide
  have hl : Ieee.double.leastPlace = -1074 := by decide
  have hf : Ieee.double.fractionBits = 52 := rfl
  simp only [hb, hi, hl, hf, cut_even]
  obtain ⟨E, hE⟩ : ∃ E, E = max 1 (e + X.log2 - 55) := ⟨_, rfl⟩
  have h1 : max ((e : Int) - 1078 + (X.log2 : Int) - ((52 : Nat) : Int)) (-1074) = (E : Int) - 1075 := by omega
  rw [h1]
  have h2 : (((E : Int) - 1075) - -1074).toNat = E - 1 := by omega
  have h3 : ((e : Int) - 1078 - ((E : Int) - 1075)).toNat = e - (E + 3) := by omega
  have h4 : (((E : Int) - 1075) - ((e : Int) - 1078)).toNat = E + 3 - e := by omega
  rw [h2, h3, h4]
  unfold nearX
  rw [← hE, Nat.shiftLeft_eq]
  have h5 : evenCut (X * 2 ^ (e - (E + 3))) (E + 3 - e) = evenCut (X * 2 ^ e) (E + 3) := by
    by_cases hc : e ≤ E + 3
    · rw [show e - (E + 3) = 0 by omega, Nat.pow_zero, Nat.mul_one]
      have := evenCut_scale X (E + 3 - e) e
      rw [show E + 3 - e + e = E + 3 by omega] at this
      exact this.symm
    · rw [show E + 3 - e = 0 by omega]
      have := evenCut_scale (X * 2 ^ (e - (E + 3))) 0 (E + 3)
      rw [Nat.mul_assoc, ← Nat.pow_add, show e - (E + 3) + (E + 3) = e by omega, Nat.zero_add] at this
      exact this.symm
  rw [h5]
end Go.Proofs.Ythdlfjpdifipkaa
