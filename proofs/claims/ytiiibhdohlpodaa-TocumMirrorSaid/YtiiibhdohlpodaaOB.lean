/- Layer 16: whole sums that are put together and taken apart again, plainly. -/
import Derived.Test.YtiiibhdohlpodaaOA
namespace Go.Proofs.Ytiiibhdohlpodaa
open Go.RowKit

/-- What holds of a state of whole sums of one kind. -/
structure Sane (m : Bool) (s : StV) : Prop where
  whole : I64 s.whole
  times : s.some = true → 0 ≤ s.start ∧ s.start < s.time
  mono : s.some = true → m = true → 0 ≤ s.whole
theorem sane_zero (m : Bool) : Sane m zeroSt := ⟨by unfold I64 zeroSt; decide, fun h => absurd h (by decide), fun h => absurd h (by decide)⟩
theorem chk_parts {x : Pnt} (h : chk x = 0) : checkE x.name x.L = 0 ∧ kindB x = true ∧ ¬ ((x.mono = true ∧ sumB x = false) ∨ timesB x = false) ∧ ¬ (ownB x = false ∨ x.flags < 0 ∨ 31 < x.flags) ∧ ¬ (x.mono = true ∧ finI x.re = false) ∧ ¬ (x.mono = true ∧ (x.whole < 0 ∨ lessI x.re 0 = true)) ∧ x.h.err = 0 := by
  unfold chk at h
  by_cases h1 : checkE x.name x.L ≠ 0
  · rw [if_pos h1] at h; exact absurd h h1
  rw [if_neg h1] at h
  by_cases h2 : kindB x = false
  · rw [if_pos h2] at h; omega
  rw [if_neg h2] at h
  by_cases h3 : (x.mono = true ∧ sumB x = false) ∨ timesB x = false
  · rw [if_pos h3] at h; omega
  rw [if_neg h3] at h
  by_cases h4 : ownB x = false ∨ x.flags < 0 ∨ 31 < x.flags
  · rw [if_pos h4] at h; omega
  rw [if_neg h4] at h
  by_cases h5 : x.mono = true ∧ finI x.re = false
  · rw [if_pos h5] at h; omega
  rw [if_neg h5] at h
  by_cases h6 : x.mono = true ∧ (x.whole < 0 ∨ lessI x.re 0 = true)
  · rw [if_pos h6] at h; omega
  rw [if_neg h6] at h
  exact ⟨Decidable.not_not.1 h1, by simpa using h2, h3, h4, h5, h6, h⟩
theorem chk_of {x : Pnt} (h1 : checkE x.name x.L = 0) (h2 : kindB x = true) (h3 : ¬ ((x.mono = true ∧ sumB x = false) ∨ timesB x = false)) (h4 : ¬ (ownB x = false ∨ x.flags < 0 ∨ 31 < x.flags)) (h5 : ¬ (x.mono = true ∧ finI x.re = false)) (h6 : ¬ (x.mono = true ∧ (x.whole < 0 ∨ lessI x.re 0 = true))) (h7 : x.h.err = 0) : chk x = 0 := by
  unfold chk
  rw [if_neg (by omega), if_neg (by rw [h2]; decide), if_neg h3, if_neg h4, if_neg h5, if_neg h6, h7]
/-- A right point of whole sums stays one with other times and another value. -/
theorem chk_with {x : Pnt} (h : chk x = 0) (hk : x.kind = 1) (t a v : Int) (ht : t = 1 ∨ t = 2) (ha : 0 ≤ a ∧ a < x.time) (hv : x.mono = true → 0 ≤ v) :
    chk { x with temp := t, flags := 0, start := a, whole := v } = 0 := by
  obtain ⟨h1, h2, h3, h4, h5, h6, h7⟩ := chk_parts h
  refine chk_of h1 ?_ ?_ ?_ h5 ?_ h7
  · unfold kindB
    simp only [decide_eq_true_eq]
    exact Or.inr ⟨Or.inl hk, ht⟩
  · intro hc
    rcases hc with ⟨_, e⟩ | e
    · unfold sumB at e
      simp only [decide_eq_false_iff_not] at e
      exact e (Or.inl hk)
    · have ht' : timesB x = true := by
        cases e' : timesB x with
        | true => rfl
        | false => exact absurd (Or.inr e') h3
      unfold timesB at e ht'
      simp only [decide_eq_true_eq, decide_eq_false_iff_not] at e ht'
      apply e
      refine ⟨⟨ha.1, ht'.1.2⟩, ?_⟩
      rw [if_neg (by omega)]
      exact ha.2
  · intro hc
    rcases hc with e | e | e
    · have ho : ownB x = true := by
        cases e' : ownB x with
        | true => rfl
        | false => exact absurd (Or.inl e') h4
      unfold ownB at e ho
      simp only [decide_eq_true_eq, decide_eq_false_iff_not] at e ho
      apply e
      exact ⟨Or.inl hk, ho.2.1, ho.2.2.1, ho.2.2.2⟩
    · exact absurd e (by show ¬ ((0 : Int) < 0); omega)
    · exact absurd e (by show ¬ ((31 : Int) < 0); omega)
  · rintro ⟨e, e2⟩
    have hm : x.mono = true := e
    rcases e2 with e2 | e2
    · have := hv hm
      have e3 : v < 0 := e2
      omega
    · exact h6 ⟨hm, Or.inr e2⟩
theorem takenE_zero {x : Pnt} {t : Int} (h : takenE x t = 0) : chk x = 0 ∧ x.temp = t ∧ x.flags = 0 := by
  unfold takenE at h
  by_cases h1 : chk x ≠ 0
  · rw [if_pos h1] at h; exact absurd h h1
  rw [if_neg h1] at h
  by_cases h2 : x.temp ≠ t
  · rw [if_pos h2] at h; omega
  rw [if_neg h2] at h
  by_cases h3 : x.flags ≠ 0
  · rw [if_pos h3] at h; omega
  exact ⟨Decidable.not_not.1 h1, Decidable.not_not.1 h2, Decidable.not_not.1 h3⟩
theorem times_of {x : Pnt} (h : chk x = 0) (hk : x.kind = 1) : 0 ≤ x.start ∧ x.start < x.time := by
  obtain ⟨_, _, h3, _⟩ := chk_parts h
  have ht : timesB x = true := by
    cases e' : timesB x with
    | true => rfl
    | false => exact absurd (Or.inr e') h3
  unfold timesB at ht
  simp only [decide_eq_true_eq] at ht
  rw [if_neg (by omega)] at ht
  exact ⟨ht.1.1, ht.2⟩
theorem stepC_zero {s : StV} {x : Pnt} (h : stepC s x = 0) : takenE x 2 = 0 ∧ (s.some = true → s.time < x.time ∧ s.time ≤ x.start) := by
  unfold stepC at h
  by_cases h1 : takenE x 2 ≠ 0
  · rw [if_pos h1] at h; omega
  rw [if_neg h1] at h
  refine ⟨Decidable.not_not.1 h1, fun hs => ?_⟩
  rw [if_pos hs] at h
  unfold lateC at h
  split at h
  · omega
  · split at h
    · omega
    · omega
/-- What comes of a point, without its flags, is taken apart again. -/
theorem mirror {m : Bool} {s : StV} {x : Pnt} (hs : Sane m s) (hc : stepC s x = 0) (hk : x.kind = 1) (hm : x.mono = m) (hw : I64 x.whole) :
    stepE s { outC s x with flags := 0 } = 0 ∧ (outW s { outC s x with flags := 0 }).time = x.time ∧ (outW s { outC s x with flags := 0 }).whole = x.whole ∧ (outW s { outC s x with flags := 0 }).start = x.start ∧ Sane m (stOf (outC s x)) := by
  obtain ⟨ht, hl⟩ := stepC_zero hc
  obtain ⟨hck, htp, hfl⟩ := takenE_zero ht
  obtain ⟨t1, t2⟩ := times_of hck hk
  have hmw : x.mono = true → 0 ≤ x.whole := fun e => by
    have := (chk_parts hck).2.2.2.2.2.1
    by_cases h : x.whole < 0
    · exact absurd ⟨e, Or.inl h⟩ this
    · omega
  have key : ∀ (a v : Int), 0 ≤ a → a < x.time → (x.mono = true → 0 ≤ v) → takenE { x with temp := 1, flags := 0, start := a, whole := v } 1 = 0 := by
    intro a v h1 h2 h3
    unfold takenE
    rw [if_neg (by rw [chk_with hck hk 1 a v (Or.inl rfl) ⟨h1, h2⟩ h3]; decide), if_neg (by simp), if_neg (by simp)]
  by_cases hsm : s.some = false
  · have ho : outC s x = { x with temp := 1, flags := 1 } := by unfold outC; rw [if_pos hsm]
    rw [ho]
    have hk1 := key x.start x.whole t1 t2 hmw
    have hq : ({ ({ x with temp := 1, flags := 1 } : Pnt) with flags := 0 } : Pnt) = { x with temp := 1, flags := 0, start := x.start, whole := x.whole } := rfl
    rw [hq]
    have hmv : movedI s { x with temp := 1, flags := 0, start := x.start, whole := x.whole } = 1 := by unfold movedI; rw [if_pos hsm]
    refine ⟨?_, ?_, ?_, ?_, ⟨hw, fun _ => ⟨t1, t2⟩, fun _ e => hmw (by rw [hm]; exact e)⟩⟩
    · unfold stepE; rw [if_neg (by rw [hk1]; decide), if_neg (by rw [hsm]; decide)]
    · unfold outW; rw [hmv, if_neg (by decide)]
    · unfold outW; rw [hmv, if_neg (by decide)]
    · unfold outW; rw [hmv, if_neg (by decide)]
  · have hst : s.some = true := by simpa using hsm
    obtain ⟨l1, l2⟩ := hl hst
    obtain ⟨u1, u2⟩ := hs.times hst
    -- flagged: the point itself
    have flagged : ∀ f : Int, f ≠ 0 → outC s x = { x with temp := 1, flags := f } → s.start < x.start →
        stepE s { outC s x with flags := 0 } = 0 ∧ (outW s { outC s x with flags := 0 }).time = x.time ∧ (outW s { outC s x with flags := 0 }).whole = x.whole ∧ (outW s { outC s x with flags := 0 }).start = x.start ∧ Sane m (stOf (outC s x)) := by
      intro f hf ho hgt
      rw [ho]
      have hk1 := key x.start x.whole t1 t2 hmw
      have hq : ({ ({ x with temp := 1, flags := f } : Pnt) with flags := 0 } : Pnt) = { x with temp := 1, flags := 0, start := x.start, whole := x.whole } := rfl
      rw [hq]
      have hmv : movedI s { x with temp := 1, flags := 0, start := x.start, whole := x.whole } ≠ 0 := by
        unfold movedI
        rw [if_neg hsm, if_neg (by show ¬ x.start ≤ s.start; omega)]
        split <;> decide
      refine ⟨?_, ?_, ?_, ?_, ⟨hw, fun _ => ⟨t1, t2⟩, fun _ e => hmw (by rw [hm]; exact e)⟩⟩
      · unfold stepE
        rw [if_neg (by rw [hk1]; decide), if_pos hst]
        unfold lateI
        rw [if_neg (by show ¬ x.time ≤ s.time; omega), if_neg (by show ¬ (x.start < s.start ∨ (s.start < x.start ∧ x.start < s.time)); omega)]
      · unfold outW; rw [if_neg hmv]
      · unfold outW; rw [if_neg hmv]
      · unfold outW; rw [if_neg hmv]
    by_cases hg : s.time < x.start
    · exact flagged 8 (by decide) (by unfold outC; rw [if_neg hsm, if_pos hg]) (by omega)
    · have hse : x.start = s.time := by omega
      have ho : outC s x = moreW s { x with temp := 1 } := by unfold outC; rw [if_neg hsm, if_neg hg]
      have hww := IntKind.wrap_i64
      unfold I64 at hw
      have hsw := hs.whole
      unfold I64 at hsw
      by_cases hov : decide (IntKind.i64.wrap (s.whole + x.whole) < s.whole) ≠ decide (x.whole < 0)
      · exact flagged 16 (by decide) (by rw [ho]; unfold moreW; rw [if_pos hov]) (by omega)
      · have hov' : (IntKind.i64.wrap (s.whole + x.whole) < s.whole) ↔ x.whole < 0 := by
          have := Decidable.not_not.1 hov
          simpa using this
        have hsum : IntKind.i64.wrap (s.whole + x.whole) = s.whole + x.whole ∧ -9223372036854775808 ≤ s.whole + x.whole ∧ s.whole + x.whole ≤ 9223372036854775807 := by
          rw [hww] at hov' ⊢
          omega
        have ho2 : outC s x = { x with temp := 1, whole := s.whole + x.whole, start := s.start } := by
          rw [ho]; unfold moreW
          rw [if_neg hov]
          dsimp only
          rw [hsum.1]
        have hsm0 : x.mono = true → 0 ≤ s.whole + x.whole := fun e => by
          have a1 := hmw e
          have a2 := hs.mono hst (by rw [← hm]; exact e)
          omega
        have hk1 := key s.start (s.whole + x.whole) u1 (by omega) hsm0
        rw [ho2]
        have hq : ({ ({ x with temp := 1, whole := s.whole + x.whole, start := s.start } : Pnt) with flags := 0 } : Pnt) = { x with temp := 1, flags := 0, start := s.start, whole := s.whole + x.whole } := rfl
        rw [hq]
        have hmv : movedI s { x with temp := 1, flags := 0, start := s.start, whole := s.whole + x.whole } = 0 := by
          unfold movedI
          rw [if_neg hsm, if_pos (by show s.start ≤ s.start; omega)]
        have hlw : lessW s { x with temp := 2, flags := 0, start := s.time, whole := s.whole + x.whole } = { x with temp := 2, flags := 0, start := s.time, whole := x.whole } := by
          unfold lessW
          have hw1 : IntKind.i64.wrap (s.whole + x.whole - s.whole) = x.whole := by rw [hww]; omega
          rw [if_neg (by rintro ⟨e1, e2⟩; have := hmw e1; have e3 : s.whole + x.whole < s.whole := e2; omega)]
          dsimp only
          rw [hw1, if_neg]
          intro h
          apply h
          have : (x.whole < s.whole + x.whole) ↔ (0 < s.whole) := by omega
          simp only [this]
        have how : outW s { x with temp := 1, flags := 0, start := s.start, whole := s.whole + x.whole } = { x with temp := 2, flags := 0, start := s.time, whole := x.whole } := by
          unfold outW
          rw [if_pos hmv]
          exact hlw
        refine ⟨?_, by rw [how], by rw [how], by rw [how, hse], ⟨⟨hsum.2.1, hsum.2.2⟩, fun _ => ⟨u1, by show s.start < x.time; omega⟩, fun _ e => hsm0 (by rw [hm]; exact e)⟩⟩
        unfold stepE
        rw [if_neg (by rw [hk1]; decide), if_pos hst]
        unfold lateI
        rw [if_neg (by show ¬ x.time ≤ s.time; omega), if_neg (by show ¬ (s.start < s.start ∨ (s.start < s.start ∧ s.start < s.time)); omega)]
end Go.Proofs.Ytiiibhdohlpodaa
