/- Layer 5: the document's Minus, Less, Add, Sub. -/
import Derived.Test.YthdlfjpdifipkaaN9
import Derived.Test.YthdlfjpdifipkaaN11
namespace Go.Proofs.Ythdlfjpdifipkaa
open Go.RowKit
attribute [local go_sem ↓] Go.wp_at_zero Go.wp_at_succ

/-- The document's sum behind its shifts. -/
def coreN (x y E a : Nat) (sa sb : Bool) : Nat :=
  if sa = sb then (if x = 0 ∧ y = 0 then a else floatN sa (roundN (x + y) E)) else
  if y ≤ x then floatN (sa && decide (y < x)) (roundN (x - y) E) else floatN sb (roundN (y - x) E)
theorem word_float (neg : Bool) (r : Nat) : Ieee.double.word neg r = floatN neg r := word_eq neg r
theorem zero_float (a : Nat) (ha : a < 18446744073709551616) (h : wM a = 0) : floatN (sgN a) 0 = a := by
  unfold wM at h
  unfold floatN sgN
  by_cases h1 : a / 4503599627370496 % 2048 = 0
  · rw [if_pos h1] at h
    by_cases h2 : 9223372036854775808 ≤ a
    · rw [decide_eq_true h2, if_pos rfl]; omega
    · rw [decide_eq_false h2, if_neg (by decide)]; omega
  · rw [if_neg h1] at h; omega
theorem ref_core (a b : Nat) (ha : a < 18446744073709551616) (h1 : oddI (a : Int) = false) (h2 : oddI (b : Int) = false) (h3 : finI (a : Int) = true) (h4 : finI (b : Int) = true) :
    refAddN a b = if wE a < wE b then coreN (shN (wE b - wE a) (8 * wM a)) (8 * wM b) (wE b) a (sgN a) (sgN b) else coreN (8 * wM a) (shN (wE a - wE b) (8 * wM b)) (wE a) a (sgN a) (sgN b) := by
  unfold refAddN
  rw [if_neg (by simp [h1, h2]), if_neg (by simp [h3]), if_neg (by simp [h3]), if_neg (by simp [h4])]
  by_cases hlt : wE a < wE b
  · rw [if_pos hlt, if_pos hlt]
    unfold finAdd coreN
    simp only [word_float]
    have hb : 4503599627370496 ≤ wM b := by
      rcases wM_hi b with h | h
      · exact h
      · have := (wE_bd a).1; omega
    generalize shN (wE b - wE a) (8 * wM a) = X
    by_cases hs : sgN b = sgN a
    · rw [if_pos hs, if_pos hs.symm, if_neg (by omega), hs, Nat.add_comm]
    · have hs' : ¬ sgN a = sgN b := fun h => hs h.symm
      rw [if_neg hs, if_neg hs']
      by_cases hx : X < 8 * wM b
      · rw [if_pos (by omega), if_neg (by omega), decide_eq_true hx, Bool.and_true]
      · by_cases he : X = 8 * wM b
        · rw [if_pos (by omega), if_pos (by omega), decide_eq_false (by omega), decide_eq_false (by omega), Bool.and_false, Bool.and_false, he]
        · rw [if_neg (by omega), if_pos (by omega), decide_eq_true (by omega), Bool.and_true]
  · rw [if_neg hlt, if_neg hlt]
    unfold finAdd coreN
    simp only [word_float]
    by_cases hs : sgN a = sgN b
    · rw [if_pos hs, if_pos hs]
      by_cases hz : 8 * wM a = 0 ∧ shN (wE a - wE b) (8 * wM b) = 0
      · rw [if_pos hz, hz.1, hz.2, Nat.add_zero, roundN_zero]
        exact zero_float a ha (by omega)
      · rw [if_neg hz]
    · rw [if_neg hs, if_neg hs]

set_option maxHeartbeats 400000 in
theorem round_zero (e : Int) (neg : Bool) (w : World) :
    Calls Try.prog 28 #[.int .u64 0, .int .i64 e, .bool neg] w fun r w' => r = .returned (.int .u64 0) ∧ w = w' := by
  go_enter Try.func28, Try.ntmps28
  go_wp2
  go_ret
  exact ⟨rfl, rfl⟩
set_option maxHeartbeats 400000 in
theorem refMinus_any (a : Int) (h0 : 0 ≤ a) (h1 : a ≤ 18446744073709551615) (w : World) :
    Calls Try.prog 22 #[.int .u64 a] w fun e w' => e = .returned (.int .u64 (minusI a)) ∧ w = w' := by
  by_cases h : a < 9223372036854775808
  · have HM : Hid (minusI a = a + 9223372036854775808) := Lib.hid (by unfold minusI; rw [if_pos h])
    have q1 : decide ((9223372036854775808 : Int) ≤ a) = false := decide_eq_false (by omega)
    have e1 : IntKind.u64.wrap (a + 9223372036854775808) = a + 9223372036854775808 := by rw [IntKind.wrap_u64]; omega
    go_enter Try.func22, Try.ntmps22
    go_wp2
    go_ret
    exact ⟨ret_int HM.out.symm, rfl⟩
  · have HM : Hid (minusI a = a - 9223372036854775808) := Lib.hid (by unfold minusI; rw [if_neg h])
    have q1 : decide ((9223372036854775808 : Int) ≤ a) = true := decide_eq_true (by omega)
    have e1 : IntKind.u64.wrap (a - 9223372036854775808) = a - 9223372036854775808 := by rw [IntKind.wrap_u64]; omega
    go_enter Try.func22, Try.ntmps22
    go_wp2
    go_ret
    exact ⟨ret_int HM.out.symm, rfl⟩

set_option maxHeartbeats 2000000 in
theorem refLess_any (a b : Nat) (ha : a < 18446744073709551616) (hb : b < 18446744073709551616) (w : World) :
    Calls Try.prog 19 #[.int .u64 a, .int .u64 b] w fun e w' => e = .returned (.bool (refLessN a b)) ∧ w = w' := by
  obtain ⟨x, hx⟩ : ∃ x, x = a % 9223372036854775808 := ⟨_, rfl⟩
  obtain ⟨y, hy⟩ : ∃ y, y = b % 9223372036854775808 := ⟨_, rfl⟩
  have HO := Lib.hid (refOdd_any (a : Int) (by omega) (by omega))
  have HP := Lib.hid (refOdd_any (b : Int) (by omega) (by omega))
  have HR : Hid (refLessN a b = if oddI a = true ∨ oddI b = true then false else if x = 0 ∧ y = 0 then false else if 9223372036854775808 ≤ a ∧ 9223372036854775808 ≤ b then decide (y < x) else if a < 9223372036854775808 ∧ b < 9223372036854775808 then decide (x < y) else decide (9223372036854775808 ≤ a)) := Lib.hid (by unfold refLessN; rw [hx, hy])
  have m1 : (a : Int) % 9223372036854775808 = (x : Int) := by omega
  have m2 : (b : Int) % 9223372036854775808 = (y : Int) := by omega
  have a0 : (0 : Int) ≤ (a : Int) := by omega
  have b0 : (0 : Int) ≤ (b : Int) := by omega
  obtain ⟨oa, hoa⟩ : ∃ oa, oa = oddI (a : Int) := ⟨_, rfl⟩
  obtain ⟨ob, hob⟩ : ∃ ob, ob = oddI (b : Int) := ⟨_, rfl⟩
  rw [← hoa] at HO HR
  rw [← hob] at HP HR
  clear hoa hob hx hy
  cases oa with
  | true =>
    have HR3 : Hid (refLessN a b = false) := Lib.hid (by rw [HR.out]; simp)
    go_enter Try.func19, Try.ntmps19
    go_wp2_with (first
      | (go_at_call_of 9 a; refine (HO.out _).mono ?_; rintro e w' ⟨rfl, rfl⟩)
      | (go_at_call_of 9 b; refine (HP.out _).mono ?_; rintro e w' ⟨rfl, rfl⟩))
    go_ret
    exact ⟨ret_bool (by rw [HR3.out]), rfl⟩
  | false =>
    cases ob with
    | true =>
      have HR3 : Hid (refLessN a b = false) := Lib.hid (by rw [HR.out]; simp)
      go_enter Try.func19, Try.ntmps19
      go_wp2_with (first
      | (go_at_call_of 9 a; refine (HO.out _).mono ?_; rintro e w' ⟨rfl, rfl⟩)
      | (go_at_call_of 9 b; refine (HP.out _).mono ?_; rintro e w' ⟨rfl, rfl⟩))
      go_ret
      exact ⟨ret_bool (by rw [HR3.out]), rfl⟩
    | false =>
      have hno : ¬ ((false : Bool) = true ∨ (false : Bool) = true) := by simp
      have HR2 := HR.out
      rw [if_neg hno] at HR2
      clear hno HR
      by_cases hz : x = 0 ∧ y = 0
      · have z1 : ((x : Int) == 0) = true := beq_iff_eq.2 (by omega)
        have z2 : ((y : Int) == 0) = true := beq_iff_eq.2 (by omega)
        rw [if_pos hz] at HR2
        have HR3 := Lib.hid HR2
        clear HR2 hz
        go_enter Try.func19, Try.ntmps19
        go_wp2_with (first
      | (go_at_call_of 9 a; refine (HO.out _).mono ?_; rintro e w' ⟨rfl, rfl⟩)
      | (go_at_call_of 9 b; refine (HP.out _).mono ?_; rintro e w' ⟨rfl, rfl⟩))
        go_ret
        exact ⟨ret_bool (by rw [HR3.out]), rfl⟩
      rw [if_neg hz] at HR2
      have zz : ((x : Int) == 0) = false ∨ (((x : Int) == 0) = true ∧ ((y : Int) == 0) = false) := by
        by_cases h : x = 0
        · exact .inr ⟨beq_iff_eq.2 (by omega), beq_eq_false_iff_ne.2 (by omega)⟩
        · exact .inl (beq_eq_false_iff_ne.2 (by omega))
      clear hz
      by_cases h2 : 9223372036854775808 ≤ a <;> by_cases h3 : 9223372036854775808 ≤ b
      · rw [if_pos ⟨h2, h3⟩] at HR2
        have HR3 := Lib.hid HR2
        clear HR2
        rcases zz with z1 | ⟨z1, z2⟩
        all_goals
          have sa1 : decide ((9223372036854775808 : Int) ≤ (a : Int)) = true := decide_eq_true (by omega)
          have sa2 : decide ((a : Int) < 9223372036854775808) = false := decide_eq_false (by omega)
          have sb1 : decide ((9223372036854775808 : Int) ≤ (b : Int)) = true := decide_eq_true (by omega)
          have sb2 : decide ((b : Int) < 9223372036854775808) = false := decide_eq_false (by omega)
          go_enter Try.func19, Try.ntmps19
          go_wp2_with (first
      | (go_at_call_of 9 a; refine (HO.out _).mono ?_; rintro e w' ⟨rfl, rfl⟩)
      | (go_at_call_of 9 b; refine (HP.out _).mono ?_; rintro e w' ⟨rfl, rfl⟩))
          go_ret
          exact ⟨ret_bool (by rw [HR3.out]), rfl⟩
      · rw [if_neg (by omega), if_neg (by omega), decide_eq_true h2] at HR2
        have HR3 := Lib.hid HR2
        clear HR2
        rcases zz with z1 | ⟨z1, z2⟩
        all_goals
          have sa1 : decide ((9223372036854775808 : Int) ≤ (a : Int)) = true := decide_eq_true (by omega)
          have sa2 : decide ((a : Int) < 9223372036854775808) = false := decide_eq_false (by omega)
          have sb1 : decide ((9223372036854775808 : Int) ≤ (b : Int)) = false := decide_eq_false (by omega)
          have sb2 : decide ((b : Int) < 9223372036854775808) = true := decide_eq_true (by omega)
          go_enter Try.func19, Try.ntmps19
          go_wp2_with (first
      | (go_at_call_of 9 a; refine (HO.out _).mono ?_; rintro e w' ⟨rfl, rfl⟩)
      | (go_at_call_of 9 b; refine (HP.out _).mono ?_; rintro e w' ⟨rfl, rfl⟩))
          go_ret
          exact ⟨ret_bool (by rw [HR3.out]), rfl⟩
      · rw [if_neg (by omega), if_neg (by omega), decide_eq_false h2] at HR2
        have HR3 := Lib.hid HR2
        clear HR2
        rcases zz with z1 | ⟨z1, z2⟩
        all_goals
          have sa1 : decide ((9223372036854775808 : Int) ≤ (a : Int)) = false := decide_eq_false (by omega)
          have sa2 : decide ((a : Int) < 9223372036854775808) = true := decide_eq_true (by omega)
          have sb1 : decide ((9223372036854775808 : Int) ≤ (b : Int)) = true := decide_eq_true (by omega)
          have sb2 : decide ((b : Int) < 9223372036854775808) = false := decide_eq_false (by omega)
          go_enter Try.func19, Try.ntmps19
          go_wp2_with (first
      | (go_at_call_of 9 a; refine (HO.out _).mono ?_; rintro e w' ⟨rfl, rfl⟩)
      | (go_at_call_of 9 b; refine (HP.out _).mono ?_; rintro e w' ⟨rfl, rfl⟩))
          go_ret
          exact ⟨ret_bool (by rw [HR3.out]), rfl⟩
      · rw [if_neg (by omega), if_pos (by omega)] at HR2
        have HR3 := Lib.hid HR2
        clear HR2
        rcases zz with z1 | ⟨z1, z2⟩
        all_goals
          have sa1 : decide ((9223372036854775808 : Int) ≤ (a : Int)) = false := decide_eq_false (by omega)
          have sa2 : decide ((a : Int) < 9223372036854775808) = true := decide_eq_true (by omega)
          have sb1 : decide ((9223372036854775808 : Int) ≤ (b : Int)) = false := decide_eq_false (by omega)
          have sb2 : decide ((b : Int) < 9223372036854775808) = true := decide_eq_true (by omega)
          go_enter Try.func19, Try.ntmps19
          go_wp2_with (first
      | (go_at_call_of 9 a; refine (HO.out _).mono ?_; rintro e w' ⟨rfl, rfl⟩)
      | (go_at_call_of 9 b; refine (HP.out _).mono ?_; rintro e w' ⟨rfl, rfl⟩))
          go_ret
          exact ⟨ret_bool (by rw [HR3.out]), rfl⟩

set_option maxHeartbeats 2000000 in
theorem refAdd_odd (a b : Nat) (ha : a < 18446744073709551616) (hb : b < 18446744073709551616) (w : World) (h : oddI (a : Int) = true ∨ (oddI (a : Int) = false ∧ oddI (b : Int) = true)) :
    Calls Try.prog 15 #[.int .u64 a, .int .u64 b] w fun e w' => e = .returned (.int .u64 ((refAddN a b : Nat) : Int)) ∧ w = w' := by
  have HO := Lib.hid (refOdd_any (a : Int) (by omega) (by omega))
  have HP := Lib.hid (refOdd_any (b : Int) (by omega) (by omega))
  have HR : Hid (refAddN a b = 9221120237041090561) := Lib.hid (by unfold refAddN; rw [if_pos (h.elim Or.inl fun x => Or.inr x.2)])
  rcases h with h | ⟨h, h2⟩
  · rw [h] at HO
    go_enter Try.func15, Try.ntmps15
    go_wp2_with (go_at_call_of 9 a; refine (HO.out _).mono ?_; rintro e w' ⟨rfl, rfl⟩)
    go_ret
    exact ⟨by rw [HR.out]; rfl, rfl⟩
  · rw [h] at HO
    rw [h2] at HP
    go_enter Try.func15, Try.ntmps15
    go_wp2_with (first
      | (go_at_call_of 9 a; refine (HO.out _).mono ?_; rintro e w' ⟨rfl, rfl⟩)
      | (go_at_call_of 9 b; refine (HP.out _).mono ?_; rintro e w' ⟨rfl, rfl⟩))
    go_ret
    exact ⟨by rw [HR.out]; rfl, rfl⟩

set_option maxHeartbeats 2000000 in
theorem refAdd_inf (a b : Nat) (ha : a < 18446744073709551616) (hb : b < 18446744073709551616) (w : World) (h1 : oddI (a : Int) = false) (h2 : oddI (b : Int) = false) (h : finI (a : Int) = false ∨ (finI (a : Int) = true ∧ finI (b : Int) = false)) :
    Calls Try.prog 15 #[.int .u64 a, .int .u64 b] w fun e w' => e = .returned (.int .u64 ((refAddN a b : Nat) : Int)) ∧ w = w' := by
  have HO := Lib.hid (refOdd_any (a : Int) (by omega) (by omega))
  have HP := Lib.hid (refOdd_any (b : Int) (by omega) (by omega))
  have HF := Lib.hid (refFinite_any (a : Int) (by omega) (by omega))
  have HG := Lib.hid (refFinite_any (b : Int) (by omega) (by omega))
  have HR0 : Hid (refAddN a b = if finI a = false ∧ finI b = false ∧ a ≠ b then 9221120237041090561 else if finI a = false then a else if finI b = false then b else refAddN a b) := Lib.hid (by
    unfold refAddN
    rw [if_neg (by simp [h1, h2])]
    split
    · rfl
    · split
      · rfl
      · split
        · rfl
        · rfl)
  rw [h1] at HO
  rw [h2] at HP
  rcases h with h | ⟨h, h4⟩
  · rw [h] at HF
    by_cases h5 : finI (b : Int) = false
    · rw [h5] at HG
      by_cases hab : a = b
      · have q : ((a : Int) != (b : Int)) = false := by simp [hab]
        have HR : Hid (refAddN a b = a) := Lib.hid (by rw [HR0.out, if_neg (fun x => x.2.2 hab), if_pos h])
        clear hab
        go_enter Try.func15, Try.ntmps15
        go_wp2_with (first
      | (go_at_call_of 9 a; refine (HO.out _).mono ?_; rintro e w' ⟨rfl, rfl⟩)
      | (go_at_call_of 9 b; refine (HP.out _).mono ?_; rintro e w' ⟨rfl, rfl⟩)
      | (go_at_call_of 11 a; refine (HF.out _).mono ?_; rintro e w' ⟨rfl, rfl⟩)
      | (go_at_call_of 11 b; refine (HG.out _).mono ?_; rintro e w' ⟨rfl, rfl⟩))
        go_ret
        exact ⟨by rw [HR.out]; rfl, rfl⟩
      · have q : ((a : Int) != (b : Int)) = true := by simp; omega
        have HR : Hid (refAddN a b = 9221120237041090561) := Lib.hid (by rw [HR0.out, if_pos ⟨h, h5, hab⟩])
        clear hab
        go_enter Try.func15, Try.ntmps15
        go_wp2_with (first
      | (go_at_call_of 9 a; refine (HO.out _).mono ?_; rintro e w' ⟨rfl, rfl⟩)
      | (go_at_call_of 9 b; refine (HP.out _).mono ?_; rintro e w' ⟨rfl, rfl⟩)
      | (go_at_call_of 11 a; refine (HF.out _).mono ?_; rintro e w' ⟨rfl, rfl⟩)
      | (go_at_call_of 11 b; refine (HG.out _).mono ?_; rintro e w' ⟨rfl, rfl⟩))
        go_ret
        exact ⟨by rw [HR.out]; rfl, rfl⟩
    · have h6 : finI (b : Int) = true := by simpa using h5
      rw [h6] at HG
      have HR : Hid (refAddN a b = a) := Lib.hid (by rw [HR0.out, if_neg (fun x => h5 x.2.1), if_pos h])
      go_enter Try.func15, Try.ntmps15
      go_wp2_with (first
      | (go_at_call_of 9 a; refine (HO.out _).mono ?_; rintro e w' ⟨rfl, rfl⟩)
      | (go_at_call_of 9 b; refine (HP.out _).mono ?_; rintro e w' ⟨rfl, rfl⟩)
      | (go_at_call_of 11 a; refine (HF.out _).mono ?_; rintro e w' ⟨rfl, rfl⟩)
      | (go_at_call_of 11 b; refine (HG.out _).mono ?_; rintro e w' ⟨rfl, rfl⟩))
      go_ret
      exact ⟨by rw [HR.out]; rfl, rfl⟩
  · rw [h] at HF
    rw [h4] at HG
    have HR : Hid (refAddN a b = b) := Lib.hid (by rw [HR0.out, if_neg (by simp [h]), if_neg (by simp [h]), if_pos h4])
    go_enter Try.func15, Try.ntmps15
    go_wp2_with (first
      | (go_at_call_of 9 a; refine (HO.out _).mono ?_; rintro e w' ⟨rfl, rfl⟩)
      | (go_at_call_of 9 b; refine (HP.out _).mono ?_; rintro e w' ⟨rfl, rfl⟩)
      | (go_at_call_of 11 a; refine (HF.out _).mono ?_; rintro e w' ⟨rfl, rfl⟩)
      | (go_at_call_of 11 b; refine (HG.out _).mono ?_; rintro e w' ⟨rfl, rfl⟩))
    go_ret
    exact ⟨by rw [HR.out]; rfl, rfl⟩
end Go.Proofs.Ythdlfjpdifipkaa
