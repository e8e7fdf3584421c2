/- Wire, plainly: variable numbers (for stage 30). -/
import Derived.Test.YtdgpeganmgcjiaaL0
namespace Go.Proofs.Ytdgpeganmgcjiaa

/-- A number's variable form, of at most k + 1 bytes. -/
def varF : Nat → Nat → List Nat
  | 0, v => [v]
  | k + 1, v => if v < 128 then [v] else (v % 128 + 128) :: varF k (v / 128)
def varW (v : Nat) : List Nat := varF 9 v
/-- The number whose form goes on among bytes, behind i bytes that told acc: it, how many bytes, an error. -/
def gotF : Nat → Nat → List Nat → Nat × Nat × Nat
  | _, _, [] => (0, 0, 2)
  | i, acc, c :: l => if i = 9 ∧ 1 < c then (0, 0, 3) else if 128 ≤ c then gotF (i + 1) (acc + (c - 128) * 128 ^ i) l else if c = 0 ∧ 0 < i then (0, 0, 3) else (acc + c * 128 ^ i, i + 1, 0)
def gotW (l : List Nat) : Nat × Nat × Nat := gotF 0 0 l
theorem varF_length (k v : Nat) : 1 ≤ (varF k v).length ∧ (varF k v).length ≤ k + 1 := by
  induction k generalizing v with
  | zero => simp [varF]
  | succ k ih =>
    have := ih (v / 128)
    unfold varF
    split
    · simp
    · simp only [List.length_cons]; omega
theorem varF_byte (k v : Nat) (hv : v < 2 * 128 ^ k) : ∀ x ∈ varF k v, x < 256 := by
  induction k generalizing v with
  | zero => intro x hx; simp [varF] at hx; simp at hv; omega
  | succ k ih =>
    intro x hx
    unfold varF at hx
    by_cases h : v < 128
    · rw [if_pos h] at hx; simp at hx; omega
    · rw [if_neg h] at hx
      rcases List.mem_cons.1 hx with rfl | hx
      · omega
      · exact ih (v / 128) (by rw [Nat.pow_succ] at hv; omega) x hx
theorem gotF_put (k i acc v : Nat) (rest : List Nat) (hi : i + k = 9) (hv : v < 2 * 128 ^ k) (h0 : i = 0 ∨ 0 < v) : gotF i acc (varF k v ++ rest) = (acc + v * 128 ^ i, i + (varF k v).length, 0) := by
  induction k generalizing i acc v with
  | zero =>
    have hv2 : v < 2 := by simpa using hv
    simp only [varF, List.cons_append, List.nil_append, gotF, List.length_cons, List.length_nil]
    rw [if_neg (by omega), if_neg (by omega), if_neg (by omega)]
  | succ k ih =>
    by_cases h : v < 128
    · have e : varF (k + 1) v = [v] := by unfold varF; rw [if_pos h]
      rw [e]
      simp only [List.cons_append, List.nil_append, gotF, List.length_cons, List.length_nil]
      rw [if_neg (by omega), if_neg (by omega), if_neg (by omega)]
    · have e : varF (k + 1) v = (v % 128 + 128) :: varF k (v / 128) := by
        conv => lhs; unfold varF
        rw [if_neg h]
      rw [e]
      simp only [List.cons_append, gotF, List.length_cons]
      rw [if_neg (by omega), if_pos (by omega), ih (i + 1) _ (v / 128) (by omega) (by rw [Nat.pow_succ] at hv; omega) (.inr (by omega))]
      have e2 : acc + (v % 128 + 128 - 128) * 128 ^ i + v / 128 * 128 ^ (i + 1) = acc + v * 128 ^ i := by
        rw [Nat.add_sub_cancel, Nat.pow_succ, Nat.mul_comm (128 ^ i) 128, ← Nat.mul_assoc, Nat.add_assoc, ← Nat.add_mul, Nat.mod_add_div']
      rw [e2]
      congr 2
      omega
theorem gotF_got (l : List Nat) (hb : ∀ x ∈ l, x < 256) (k i acc V N : Nat) (hi : i + k = 9) (h : gotF i acc l = (V, N, 0)) :
    ∃ v, V = acc + v * 128 ^ i ∧ v < 2 * 128 ^ k ∧ (i = 0 ∨ 0 < v) ∧ N = i + (varF k v).length ∧ varF k v = l.take (N - i) := by
  induction l generalizing k i acc with
  | nil => simp [gotF] at h
  | cons c l ih =>
    have hc := hb c (List.mem_cons_self ..)
    simp only [gotF] at h
    by_cases h1 : i = 9 ∧ 1 < c
    · rw [if_pos h1] at h; simp at h
    · rw [if_neg h1] at h
      by_cases h2 : 128 ≤ c
      · rw [if_pos h2] at h
        obtain ⟨k', rfl⟩ : ∃ k', k = k' + 1 := ⟨k - 1, by omega⟩
        obtain ⟨v, e1, e2, e3, e4, e5⟩ := ih (fun x hx => hb x (List.mem_cons_of_mem _ hx)) k' (i + 1) _ (by omega) h
        have hv0 : 0 < v := by omega
        have f1 : (c - 128 + 128 * v) / 128 = v := by omega
        have f2 : (c - 128 + 128 * v) % 128 = c - 128 := by omega
        have fv : varF (k' + 1) (c - 128 + 128 * v) = c :: varF k' v := by
          conv => lhs; unfold varF
          rw [if_neg (by omega), f1, f2, show c - 128 + 128 = c by omega]
        refine ⟨c - 128 + 128 * v, ?_, ?_, .inr (by omega), ?_, ?_⟩
        · rw [e1, Nat.add_mul, Nat.pow_succ, Nat.mul_comm (128 ^ i) 128, ← Nat.mul_assoc, Nat.mul_comm v 128]; omega
        · rw [Nat.pow_succ]; omega
        · rw [fv, List.length_cons]; omega
        · rw [fv, show N - i = (N - (i + 1)) + 1 by omega, List.take_succ_cons, e5]
      · rw [if_neg h2] at h
        by_cases h3 : c = 0 ∧ 0 < i
        · rw [if_pos h3] at h; simp at h
        · rw [if_neg h3] at h
          injection h with h4 h
          injection h with h5 _
          have fv : varF k c = [c] := by
            cases k with
            | zero => rfl
            | succ k => unfold varF; rw [if_pos (by omega)]
          refine ⟨c, h4.symm, ?_, by omega, by rw [fv]; exact h5.symm, by rw [fv, ← h5, show i + 1 - i = 1 by omega]; rfl⟩
          cases k with
          | zero => simp; omega
          | succ k =>
            have hp : 0 < 128 ^ k := Nat.pow_pos (by omega)
            rw [Nat.pow_succ]
            omega
theorem p18 : (18446744073709551616 : Nat) = 2 * 128 ^ 9 := by decide
theorem gotW_put (v : Nat) (rest : List Nat) (hv : v < 18446744073709551616) : gotW (varW v ++ rest) = (v, (varW v).length, 0) := by
  unfold gotW varW
  rw [gotF_put 9 0 0 v rest rfl (by rw [← p18]; exact hv) (.inl rfl)]
  simp
theorem varW_got (l : List Nat) (hb : ∀ x ∈ l, x < 256) (V N : Nat) (h : gotW l = (V, N, 0)) : V < 18446744073709551616 ∧ varW V = l.take N ∧ N = (varW V).length := by
  obtain ⟨v, e1, e2, _, e4, e5⟩ := gotF_got l hb 9 0 0 V N rfl h
  have e : V = v := by simpa using e1
  subst e
  exact ⟨by rw [p18]; exact e2, e5, by rw [e4]; unfold varW; omega⟩
/-- What bytes tell, the lowest seven bits first. -/
def numW : List Nat → Nat
  | [] => 0
  | c :: l => c % 128 + 128 * numW l
/-- The document's way to read a variable number: so many bytes go on, and one that doesn't. -/
theorem gotF_ref (l : List Nat) (hb : ∀ x ∈ l, x < 256) (i acc : Nat) (hi : i ≤ 9) :
    ∃ n, i + n ≤ 9 ∧ n ≤ l.length ∧ (∀ j, j < n → 128 ≤ l.getD j 0) ∧
      ((l.length = n ∧ gotF i acc l = (0, 0, 2)) ∨
       (n < l.length ∧ i + n = 9 ∧ 128 ≤ l.getD n 0 ∧ gotF i acc l = (0, 0, 3)) ∨
       (n < l.length ∧ l.getD n 0 < 128 ∧ ((i + n = 9 ∧ 1 < l.getD n 0) ∨ (0 < i + n ∧ l.getD n 0 = 0)) ∧ gotF i acc l = (0, 0, 3)) ∨
       (n < l.length ∧ l.getD n 0 < 128 ∧ ¬ ((i + n = 9 ∧ 1 < l.getD n 0) ∨ (0 < i + n ∧ l.getD n 0 = 0)) ∧ gotF i acc l = (acc + numW (l.take (n + 1)) * 128 ^ i, i + n + 1, 0))) := by
  induction l generalizing i acc with
  | nil => exact ⟨0, by omega, Nat.zero_le _, (fun j h => by omega), .inl ⟨rfl, rfl⟩⟩
  | cons c l ih =>
    by_cases h9 : i = 9 ∧ 1 < c
    · have e : gotF i acc (c :: l) = (0, 0, 3) := by simp only [gotF]; rw [if_pos h9]
      refine ⟨0, by omega, Nat.zero_le _, (fun j h => by omega), ?_⟩
      by_cases h : 128 ≤ c
      · exact .inr (.inl ⟨by simp, by omega, h, e⟩)
      · exact .inr (.inr (.inl ⟨by simp, by simpa using h, .inl ⟨by omega, h9.2⟩, e⟩))
    · by_cases h2 : 128 ≤ c
      · have e : gotF i acc (c :: l) = gotF (i + 1) (acc + (c - 128) * 128 ^ i) l := by simp only [gotF]; rw [if_neg h9, if_pos h2]
        obtain ⟨n, a1, a2, a3, hr⟩ := ih (fun x hx => hb x (List.mem_cons_of_mem _ hx)) (i + 1) (acc + (c - 128) * 128 ^ i) (by omega)
        refine ⟨n + 1, by omega, by simp; omega, ?_, ?_⟩
        · intro j hj
          cases j with
          | zero => exact h2
          | succ j => have := a3 j (by omega); simpa using this
        · rw [e]
          rcases hr with ⟨b1, b2⟩ | ⟨b1, b2, b3, b4⟩ | ⟨b1, b2, b3, b4⟩ | ⟨b1, b2, b3, b4⟩
          · exact .inl ⟨by simp [b1], b2⟩
          · exact .inr (.inl ⟨by simp; omega, by omega, by simpa using b3, b4⟩)
          · exact .inr (.inr (.inl ⟨by simp; omega, by simpa using b2, by rcases b3 with ⟨x, y⟩ | ⟨x, y⟩; exact .inl ⟨by omega, by simpa using y⟩; exact .inr ⟨by omega, by simpa using y⟩, b4⟩))
          · refine .inr (.inr (.inr ⟨by simp; omega, by simpa using b2, ?_, ?_⟩))
            · rintro (⟨x, y⟩ | ⟨x, y⟩)
              · exact b3 (.inl ⟨by omega, by simpa using y⟩)
              · exact b3 (.inr ⟨by omega, by simpa using y⟩)
            · rw [b4, List.take_succ_cons]
              simp only [numW]
              have hc := hb c (List.mem_cons_self ..)
              have e3 : acc + (c - 128) * 128 ^ i + numW (l.take (n + 1)) * 128 ^ (i + 1) = acc + (c % 128 + 128 * numW (l.take (n + 1))) * 128 ^ i := by
                rw [show c - 128 = c % 128 by omega, Nat.pow_succ, Nat.add_mul, Nat.mul_comm (128 ^ i) 128, ← Nat.mul_assoc, Nat.mul_comm (numW (l.take (n + 1))) 128, Nat.add_assoc]
              rw [e3]
              congr 2
              omega
      · by_cases h3 : c = 0 ∧ 0 < i
        · have e : gotF i acc (c :: l) = (0, 0, 3) := by simp only [gotF]; rw [if_neg h9, if_neg h2, if_pos h3]
          exact ⟨0, by omega, Nat.zero_le _, (fun j h => by omega), .inr (.inr (.inl ⟨by simp, by simp; omega, .inr ⟨by omega, h3.1⟩, e⟩))⟩
        · have e : gotF i acc (c :: l) = (acc + c * 128 ^ i, i + 1, 0) := by simp only [gotF]; rw [if_neg h9, if_neg h2, if_neg h3]
          refine ⟨0, by omega, Nat.zero_le _, (fun j h => by omega), .inr (.inr (.inr ⟨by simp, by simp; omega, ?_, ?_⟩))⟩
          · rintro (⟨x, y⟩ | ⟨x, y⟩)
            · exact h9 ⟨by omega, y⟩
            · exact h3 ⟨y, by omega⟩
          · rw [e]
            simp only [List.take_succ_cons, List.take_zero, numW]
            rw [Nat.mod_eq_of_lt (by omega)]
            rfl
end Go.Proofs.Ytdgpeganmgcjiaa
