/- Layer 32, plainly: how Match goes over a text. -/
import Derived.Test.YtjbjfdmdicfjfaaD1
namespace Go.Proofs.Ytjbjfdmdicfjfaa

/-- Pieces none of which is for any bytes match just texts of their length. -/
theorem mt_len {A : List Pc} (hA : ∀ p ∈ A, p.k ≠ 3) : ∀ {l : List Nat}, mt A l = true → l.length = A.length := by
  induction A with
  | nil => intro l h; rw [mt_nil] at h; rw [h]; rfl
  | cons p P ih =>
    intro l h
    obtain ⟨c, t, rfl, _, h2⟩ := (mt_one _ _ (hA p (by simp))).1 h
    have := ih (fun q hq => hA q (by simp [hq])) h2
    simp [this]
/-- How far Match is: the place in the text, the piece, the last piece for any bytes (-1: none was met), and where what is behind its bytes begins. -/
structure MI (ps : List Pc) (l : List Nat) (at_ pc : Nat) (st : Int) (fr : Nat) : Prop where
  hat : at_ ≤ l.length
  hpc : pc ≤ ps.length
  lo : -1 ≤ st
  hst : st < pc
  hfr : fr ≤ l.length
  eq : 0 ≤ st → at_ + (st.toNat + 1) = fr + pc
  non : ∀ (j : Nat) (p : Pc), st < (j : Int) → j < pc → ps[j]? = some p → 0 ≤ st → p.k ≠ 3
  val : mt ps l = true ↔ mt (ps.drop pc) (l.drop at_) = true ∨ (0 ≤ st ∧ ∃ j, fr < j ∧ j ≤ l.length ∧ mt (ps.drop (st.toNat + 1)) (l.drop j) = true)
theorem MI.start (ps : List Pc) (l : List Nat) : MI ps l 0 0 (-1) 0 := ⟨by omega, by omega, by omega, by omega, by omega, fun h => by omega, fun j p h1 h2 => by omega, by simp⟩
theorem drop_piece {ps : List Pc} {pc : Nat} {p : Pc} (h : ps[pc]? = some p) : ps.drop pc = p :: ps.drop (pc + 1) := by
  have hj := (List.getElem?_eq_some_iff.1 h).1
  rw [List.drop_eq_getElem_cons hj]
  rw [List.getElem?_eq_getElem hj] at h
  injection h with h; rw [h]
theorem MI.many {ps : List Pc} {l : List Nat} {at_ pc : Nat} {st : Int} {fr : Nat} (h : MI ps l at_ pc st fr) {p : Pc} (hp : ps[pc]? = some p) (hk : p.k = 3) : MI ps l at_ (pc + 1) (pc : Int) at_ := by
  have hj := (List.getElem?_eq_some_iff.1 hp).1
  have hd := drop_piece hp
  refine ⟨h.hat, hj, by omega, by omega, h.hat, fun _ => by omega, fun j p h1 h2 => by omega, ?_⟩
  rw [h.val, hd, show ((pc : Int)).toNat = pc by omega]
  have hm := mt_many (ps.drop (pc + 1)) (l.drop at_) hk
  constructor
  · rintro (h1 | ⟨h0, j, hj1, hj2, h1⟩)
    · obtain ⟨i, hi, h2⟩ := hm.1 h1
      rw [List.length_drop] at hi
      rw [List.drop_drop] at h2
      have hat := h.hat
      rcases Nat.eq_zero_or_pos i with rfl | hi0
      · exact .inl (by simpa using h2)
      · exact .inr ⟨by omega, at_ + i, by omega, by omega, h2⟩
    · have heq := h.eq h0
      have hst := h.hst
      have hsplit : ps.drop (st.toNat + 1) = (ps.drop (st.toNat + 1)).take (pc - (st.toNat + 1)) ++ p :: ps.drop (pc + 1) := by
        rw [← hd]
        conv => lhs; rw [← List.take_append_drop (pc - (st.toNat + 1)) (ps.drop (st.toNat + 1))]
        rw [List.drop_drop, show st.toNat + 1 + (pc - (st.toNat + 1)) = pc by omega]
      have hnon : ∀ q ∈ (ps.drop (st.toNat + 1)).take (pc - (st.toNat + 1)), q.k ≠ 3 := by
        intro q hq
        obtain ⟨i, hi, he⟩ := List.getElem_of_mem hq
        rw [List.length_take, List.length_drop] at hi
        have hg : ps[st.toNat + 1 + i]? = some q := by
          rw [List.getElem_take, List.getElem_drop] at he
          rw [List.getElem?_eq_getElem (by omega), he]
        exact h.non _ q (by omega) (by omega) hg h0
      rw [hsplit] at h1
      obtain ⟨i, hi, h2, h3⟩ := (mt_append _ _ _).1 h1
      have hl := mt_len hnon h2
      rw [List.length_take, List.length_take, List.length_drop, List.length_drop] at hl
      rw [List.length_drop] at hi
      rw [List.drop_drop] at h3
      obtain ⟨i2, hi2, h4⟩ := (mt_many _ _ hk).1 h3
      rw [List.length_drop] at hi2
      rw [List.drop_drop] at h4
      exact .inr ⟨by omega, j + i + i2, by omega, by omega, h4⟩
  · rintro (h1 | ⟨_, j, hj1, hj2, h1⟩)
    · exact .inl (hm.2 ⟨0, Nat.zero_le _, by simpa using h1⟩)
    · exact .inl (hm.2 ⟨j - at_, by rw [List.length_drop]; omega, by rw [List.drop_drop, show at_ + (j - at_) = j by omega]; exact h1⟩)
theorem drop_nat {l : List Nat} {i : Nat} (h : i < l.length) : l.drop i = l.getD i 0 :: l.drop (i + 1) := by
  rw [List.drop_eq_getElem_cons h, List.getD_eq_getElem?_getD, List.getElem?_eq_getElem h]; rfl
theorem MI.step {ps : List Pc} {l : List Nat} {at_ pc : Nat} {st : Int} {fr : Nat} (h : MI ps l at_ pc st fr) {p : Pc} (hp : ps[pc]? = some p) (hk : p.k ≠ 3) (ha : at_ < l.length) (hh : p.hold (l.getD at_ 0) = true) : MI ps l (at_ + 1) (pc + 1) st fr := by
  have hj := (List.getElem?_eq_some_iff.1 hp).1
  have hst := h.hst
  refine ⟨ha, hj, h.lo, by omega, h.hfr, fun h0 => by have := h.eq h0; omega, fun j q h1 h2 hq h0 => ?_, ?_⟩
  · by_cases hjp : j = pc
    · subst hjp; rw [hp] at hq; injection hq with hq; rw [← hq]; exact hk
    · exact h.non j q h1 (by omega) hq h0
  · rw [h.val, drop_piece hp, drop_nat ha, mt_one _ _ hk]
    constructor
    · rintro (⟨c, t, e, _, h2⟩ | h2)
      · injection e with e1 e2; subst e2; exact .inl h2
      · exact .inr h2
    · rintro (h2 | h2)
      · exact .inl ⟨_, _, rfl, hh, h2⟩
      · exact .inr h2
theorem MI.back {ps : List Pc} {l : List Nat} {at_ pc : Nat} {st : Int} {fr : Nat} (h : MI ps l at_ pc st fr) (h0 : 0 ≤ st) (hf : fr < l.length) (hn : mt (ps.drop pc) (l.drop at_) = false) : MI ps l (fr + 1) (st.toNat + 1) st (fr + 1) := by
  have hst := h.hst
  have hpc := h.hpc
  refine ⟨hf, by omega, h.lo, by omega, hf, fun _ => by omega, fun j q h1 h2 => by omega, ?_⟩
  rw [h.val, hn]
  constructor
  · rintro (h1 | ⟨_, j, hj1, hj2, h1⟩)
    · cases h1
    · by_cases hj : j = fr + 1
      · subst hj; exact .inl h1
      · exact .inr ⟨h0, j, by omega, hj2, h1⟩
  · rintro (h1 | ⟨_, j, hj1, hj2, h1⟩)
    · exact .inr ⟨h0, fr + 1, by omega, hf, h1⟩
    · exact .inr ⟨h0, j, by omega, hj2, h1⟩
theorem MI.no {ps : List Pc} {l : List Nat} {at_ pc : Nat} {st : Int} {fr : Nat} (h : MI ps l at_ pc st fr) (hx : ¬ (0 ≤ st ∧ fr < l.length)) (hn : mt (ps.drop pc) (l.drop at_) = false) : mt ps l = false := by
  rw [← Bool.not_eq_true]
  intro e
  rcases h.val.1 e with h1 | ⟨h0, j, hj1, hj2, _⟩
  · rw [hn] at h1; cases h1
  · exact hx ⟨h0, by omega⟩
theorem MI.yes {ps : List Pc} {l : List Nat} {at_ pc : Nat} {st : Int} {fr : Nat} (h : MI ps l at_ pc st fr) (ha : at_ = l.length) (hp : pc = ps.length) : mt ps l = true :=
  h.val.2 (.inl (by rw [ha, hp, List.drop_length, List.drop_length, mt]))
theorem MI.fail {ps : List Pc} {l : List Nat} {at_ pc : Nat} {st : Int} {fr : Nat} (h : MI ps l at_ pc st fr) (hm : ∀ p, ps[pc]? = some p → p.k ≠ 3) (hh : ∀ p, ps[pc]? = some p → at_ < l.length → p.hold (l.getD at_ 0) = false) (he : ¬ (at_ = l.length ∧ pc = ps.length)) : mt (ps.drop pc) (l.drop at_) = false := by
  have h1 := h.hat
  have h2 := h.hpc
  rw [← Bool.not_eq_true]
  intro e
  by_cases hp : pc < ps.length
  · have hg := List.getElem?_eq_getElem hp
    rw [drop_piece hg] at e
    obtain ⟨c, t, e1, e2, _⟩ := (mt_one _ _ (hm _ hg)).1 e
    by_cases ha : at_ < l.length
    · rw [drop_nat ha] at e1
      injection e1 with e1 _
      rw [← e1, hh _ hg ha] at e2
      cases e2
    · rw [List.drop_eq_nil_of_le (by omega)] at e1
      cases e1
  · rw [List.drop_eq_nil_of_le (by omega), mt_nil, List.drop_eq_nil_iff] at e
    omega
/-- What is left to do. -/
def miN (m n : Nat) (pc : Nat) (st : Int) (fr : Nat) : Nat := ((m - (st + 1).toNat) * (n + 1) + (n - fr)) * (m + 1) + (m - pc)
theorem lex_lt {A B m x y : Nat} (h : A < B) (hx : x ≤ m) : A * (m + 1) + x < B * (m + 1) + y := by
  have : (A + 1) * (m + 1) ≤ B * (m + 1) := Nat.mul_le_mul_right _ h
  rw [Nat.succ_mul] at this
  omega
theorem miN_many {m n at_ pc fr : Nat} {st : Int} (h2 : st < pc) (h3 : pc < m) : miN m n (pc + 1) (pc : Int) at_ < miN m n pc st fr := by
  unfold miN
  refine lex_lt (lex_lt ?_ (by omega)) (by omega)
  omega
theorem miN_step {m n pc fr : Nat} {st : Int} (h3 : pc < m) : miN m n (pc + 1) st fr < miN m n pc st fr := by
  unfold miN
  omega
theorem miN_back {m n pc fr : Nat} {st : Int} (h : fr < n) : miN m n (st.toNat + 1) st (fr + 1) < miN m n pc st fr := by
  unfold miN
  refine lex_lt ?_ (by omega)
  omega
end Go.Proofs.Ytjbjfdmdicfjfaa
