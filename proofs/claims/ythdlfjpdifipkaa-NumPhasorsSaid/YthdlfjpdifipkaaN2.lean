/- Layer 5: awake; the document's Odd, Finite, Canon; the walk of 'NumKinds'. -/
import Derived.Test.YthdlfjpdifipkaaN1
import Derived.Outline
namespace Go.Proofs.Ythdlfjpdifipkaa
open Go.RowKit

/-- Is the one below the other? -/
def lessI (a b : Int) : Bool := Ieee.double.order a.toNat b.toNat == some .lt

set_option maxHeartbeats 400000 in
theorem less_any (a b : Int) (w : World) :
    Calls Try.prog 18 #[.int .u64 a, .int .u64 b] w fun e w' => e = .returned (.bool (lessI a b)) ∧ w = w' := by
  go_enter Try.func18, Try.ntmps18
  go_wp2_with (go_at_call 25; refine (float_any _ _).mono ?_; rintro e w' ⟨rfl, rfl⟩)
  go_ret
  exact ⟨rfl, rfl⟩

set_option maxHeartbeats 400000 in
theorem refOdd_any (a : Int) (h0 : 0 ≤ a) (h1 : a ≤ 18446744073709551615) (w : World) :
    Calls Try.prog 9 #[.int .u64 a] w fun e w' => e = .returned (.bool (oddI a)) ∧ w = w' := by
  by_cases h : a / 4503599627370496 % 2048 = 2047
  · have HO : Hid ((a % 4503599627370496 != 0) = oddI a) := by
      show _ = _; unfold oddI
      by_cases h2 : a % 4503599627370496 = 0
      · simp [h, h2]
      · simp [h, h2]
    go_enter Try.func9, Try.ntmps9
    go_wp2
    go_ret
    exact ⟨ret_bool HO.out, rfl⟩
  · have HO : Hid (oddI a = false) := by show _ = _; unfold oddI; simp [h]
    go_enter Try.func9, Try.ntmps9
    go_wp2
    go_ret
    exact ⟨ret_bool HO.out.symm, rfl⟩

set_option maxHeartbeats 400000 in
theorem refFinite_any (a : Int) (h0 : 0 ≤ a) (h1 : a ≤ 18446744073709551615) (w : World) :
    Calls Try.prog 11 #[.int .u64 a] w fun e w' => e = .returned (.bool (finI a)) ∧ w = w' := by
  have HO : Hid ((a / 4503599627370496 % 2048 != 2047) = finI a) := by
    show _ = _; unfold finI
    by_cases h : a / 4503599627370496 % 2048 = 2047 <;> simp [h]
  go_enter Try.func11, Try.ntmps11
  go_wp2
  go_ret
  exact ⟨ret_bool HO.out, rfl⟩

set_option maxHeartbeats 400000 in
theorem refCanon_any (a : Int) (h0 : 0 ≤ a) (h1 : a ≤ 18446744073709551615) (w : World) :
    Calls Try.prog 13 #[.int .u64 a] w fun e w' => e = .returned (.int .u64 (canonI a)) ∧ w = w' := by
  by_cases h : oddI a = true
  · have HC : Hid (canonI a = 9221120237041090561) := if_pos h
    go_enter Try.func13, Try.ntmps13
    go_wp2_with (go_at_call 9; refine (refOdd_any a h0 h1 _).mono ?_; rintro e w' ⟨rfl, rfl⟩)
    go_ret
    exact ⟨ret_int HC.out.symm, rfl⟩
  · have HC : Hid (canonI a = a) := if_neg h
    have h' : oddI a = false := by simpa using h
    clear h
    go_enter Try.func13, Try.ntmps13
    go_wp2_with (go_at_call 9; refine (refOdd_any a h0 h1 _).mono ?_; rintro e w' ⟨rfl, rfl⟩)
    go_ret
    exact ⟨ret_int HC.out.symm, rfl⟩

theorem add_one : addI 4607182418800017408 4607182418800017408 = 4611686018427387904 := by decide +kernel
theorem sub_inf : subI 9218868437227405312 9218868437227405312 = 9221120237041090561 := by decide +kernel
theorem less_one : lessI 13830554455654793216 0 = true := by decide +kernel
theorem odd_one : oddI 9218868437227405313 = true := by decide +kernel

theorem Drawn.of {w w' : World} {P : Prop} (h : P ∧ w = w') : Drawn w w' P := ⟨h.1, 0, h.2.symm⟩

set_option maxHeartbeats 400000 in
theorem awake5_any (w : World) :
    Calls Try.prog 7 #[] w fun e w' => Drawn w w' (e = .returned (.bool true)) := by
  go_enter Try.func7, Try.ntmps7
  go_wp2_with (first | (go_at_call 14; refine (add_any _ _ _).mono ?_; rw [add_one]; rintro e w' ⟨rfl, q1, rfl⟩) | (go_at_call 16; refine (sub_any _ _ _).mono ?_; rw [sub_inf]; rintro e w' ⟨rfl, q2, rfl⟩) | (go_at_call 18; refine (less_any _ _ _).mono ?_; rw [less_one]; rintro e w' ⟨rfl, rfl⟩) | (go_at_call 8; refine (odd_any _ (by omega) (by omega) _).mono ?_; rw [odd_one]; rintro e w' ⟨rfl, rfl⟩))
  go_ret
  exact ⟨rfl, _, rfl⟩

set_option maxHeartbeats 1000000 in
theorem numKinds_walk (a : Int) (w : World) (ha : 0 ≤ a ∧ a ≤ 18446744073709551615) :
    Calls Try.prog 3 #[.int .u64 a] w fun e w' => e = .returned (.bool true) ∧ Kept (fun _ => False) w w' := by
  obtain ⟨h0, h1⟩ := ha
  have hc := canonI_range a h0 h1
  have cc := canonI_canonI a
  go_enter Try.func3, Try.ntmps3
  go_wp2_with fail
  refine (awake5_any w).mono ?_
  rintro e w' ⟨rfl, q, rfl⟩
  go_wp2_with (first | (go_at_call 8; refine (odd_any _ h0 h1 _).mono ?_; rintro e w' ⟨rfl, rfl⟩) | (go_at_call 9; refine (refOdd_any _ h0 h1 _).mono ?_; rintro e w' ⟨rfl, rfl⟩) | (go_at_call 10; refine (finite_any _ h0 h1 _).mono ?_; rintro e w' ⟨rfl, rfl⟩) | (go_at_call 11; refine (refFinite_any _ h0 h1 _).mono ?_; rintro e w' ⟨rfl, rfl⟩) | (go_at_call 13; refine (refCanon_any _ h0 h1 _).mono ?_; rintro e w' ⟨rfl, rfl⟩) | (go_at_call 12; refine (canon_any _ (by omega) (by omega) _).mono ?_; rintro e w' ⟨rfl, rfl⟩))
  go_ret
  exact ⟨rfl, (Kept.refl _ _).drewN _⟩
end Go.Proofs.Ythdlfjpdifipkaa
