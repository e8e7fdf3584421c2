/- The order of texts, plainly (A7 and AM hold the same two facts still). -/
import Derived.Test.YtficodklidaheaaDoorL0
namespace Go.Proofs.YtficodklidaheaaDoor
open Go
theorem bytesLess_total : ∀ x y : List UInt8, (Op.bytesLess x y || x == y) = !Op.bytesLess y x
  | [], [] => rfl
  | [], _ :: _ => rfl
  | _ :: _, [] => rfl
  | a :: x, b :: y => by
    have ih := bytesLess_total x y
    unfold Op.bytesLess
    have h1 : ((a :: x) == (b :: y)) = ((a == b) && (x == y)) := rfl
    rw [h1]
    by_cases hab : a = b
    · subst hab
      have hlt : decide (a < a) = false := decide_eq_false (by exact fun h => absurd h (by simp [UInt8.lt_irrefl]))
      simp only [beq_self_eq_true, Bool.true_and, hlt, Bool.false_or]
      exact ih
    · have hb1 : (a == b) = false := beq_eq_false_iff_ne.2 hab
      have hb2 : (b == a) = false := beq_eq_false_iff_ne.2 (fun e => hab e.symm)
      simp only [hb1, hb2, Bool.false_and, Bool.or_false]
      rcases Nat.lt_trichotomy a.toNat b.toNat with h | h | h
      · have l1 : decide (a < b) = true := decide_eq_true (UInt8.lt_iff_toNat_lt.2 h)
        have l2 : decide (b < a) = false := decide_eq_false (fun e => by have := UInt8.lt_iff_toNat_lt.1 e; omega)
        rw [l1, l2]; rfl
      · exact absurd (UInt8.toNat_inj.1 h) hab
      · have l1 : decide (b < a) = true := decide_eq_true (UInt8.lt_iff_toNat_lt.2 h)
        have l2 : decide (a < b) = false := decide_eq_false (fun e => by have := UInt8.lt_iff_toNat_lt.1 e; omega)
        rw [l1, l2]; rfl
theorem bytesLess_trans : ∀ x y z : List UInt8, Op.bytesLess x y = true → Op.bytesLess y z = true → Op.bytesLess x z = true
  | [], [], _, h, _ => by unfold Op.bytesLess at h; cases h
  | _ :: _, [], _, h, _ => by unfold Op.bytesLess at h; cases h
  | _, _ :: _, [], _, h => by unfold Op.bytesLess at h; cases h
  | [], _ :: _, _ :: _, _, _ => rfl
  | a :: x, b :: y, c :: z, h1, h2 => by
    have ih := bytesLess_trans x y z
    unfold Op.bytesLess at h1 h2 ⊢
    rw [Bool.or_eq_true, Bool.and_eq_true, decide_eq_true_eq, beq_iff_eq] at h1 h2 ⊢
    rw [UInt8.lt_iff_toNat_lt] at h1 h2 ⊢
    rcases h1 with h1 | ⟨e1, h1⟩
    · rcases h2 with h2 | ⟨e2, h2⟩
      · exact .inl (by omega)
      · subst e2; exact .inl h1
    · subst e1
      rcases h2 with h2 | ⟨e2, h2⟩
      · exact .inl h2
      · exact .inr ⟨e2, ih h1 h2⟩
/-- What stands between a text and one that begins with it, begins with it. -/
theorem pre_between : ∀ s a b : List UInt8, Op.bytesLess a s = false → Op.bytesLess b a = false → s <+: b → s <+: a
  | [], _, _, _, _, _ => List.nil_prefix
  | c :: s, [], b, h1, _, _ => by unfold Op.bytesLess at h1; cases h1
  | c :: s, d :: a, [], _, _, h3 => by simp at h3
  | c :: s, d :: a, f :: b, h1, h2, h3 => by
    rw [List.cons_prefix_cons] at h3 ⊢
    obtain ⟨rfl, h3⟩ := h3
    have ih := pre_between s a b
    unfold Op.bytesLess at h1 h2
    rw [Bool.or_eq_false_iff, Bool.and_eq_false_iff, decide_eq_false_iff_not, beq_eq_false_iff_ne] at h1 h2
    rw [UInt8.lt_iff_toNat_lt] at h1 h2
    have e : c = d := UInt8.toNat_inj.1 (by omega)
    subst e
    exact ⟨rfl, ih (h1.2.resolve_left (fun h => h rfl)) (h2.2.resolve_left (fun h => h rfl)) h3⟩
/-- What is below a text doesn't begin with it. -/
theorem pre_not_less : ∀ s a : List UInt8, s <+: a → Op.bytesLess a s = false
  | [], [], _ => rfl
  | [], _ :: _, _ => rfl
  | c :: s, [], h => by simp at h
  | c :: s, d :: a, h => by
    rw [List.cons_prefix_cons] at h
    obtain ⟨rfl, h⟩ := h
    have ih := pre_not_less s a h
    unfold Op.bytesLess
    rw [ih, decide_eq_false (by exact fun h => absurd h (by simp [UInt8.lt_irrefl]))]
    simp
end Go.Proofs.YtficodklidaheaaDoor
