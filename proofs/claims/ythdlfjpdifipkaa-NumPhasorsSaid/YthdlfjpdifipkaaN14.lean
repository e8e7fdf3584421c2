/- Layer 5: the document's Sub; the walk of 'NumAdds'. -/
import Derived.Test.YthdlfjpdifipkaaN13
namespace Go.Proofs.Ythdlfjpdifipkaa
open Go.RowKit
attribute [local go_sem ↓] Go.wp_at_zero Go.wp_at_succ

set_option maxHeartbeats 1000000 in
theorem refSub_any (a b : Nat) (ha : a < 18446744073709551616) (hb : b < 18446744073709551616) (w : World) :
    Calls Try.prog 17 #[.int .u64 a, .int .u64 b] w fun e w' => e = .returned (.int .u64 (subI a b)) ∧ w = w' := by
  have HP := Lib.hid (refOdd_any (b : Int) (by omega) (by omega))
  have hm := minusI_range (b : Int) (by omega) (by omega)
  obtain ⟨B, hB⟩ : ∃ B : Nat, minusI (b : Int) = (B : Int) := ⟨(minusI (b : Int)).toNat, by omega⟩
  have hBl : B < 18446744073709551616 := by omega
  have HS : Hid (subI (a : Int) (b : Int) = addI (a : Int) (B : Int)) := Lib.hid (by rw [subI_minus _ _ (by omega) (by omega), hB])
  have HM := Lib.hid (refMinus_any (b : Int) (by omega) (by omega))
  rw [hB] at HM
  have HA := Lib.hid (refAdd_any a B ha hBl)
  cases ho : oddI (b : Int) with
  | true =>
    have hoB : oddI (B : Int) = true := by
      rw [odd_nat, decide_eq_true_eq] at ho ⊢
      have : (B : Int) = if (b : Int) < 9223372036854775808 then (b : Int) + 9223372036854775808 else (b : Int) - 9223372036854775808 := by rw [← hB]; rfl
      split at this <;> omega
    have HV : Hid (subI (a : Int) (b : Int) = 9221120237041090561) := Lib.hid (by rw [HS.out, add_ref a B ha hBl]; unfold refAddN; rw [if_pos (Or.inr hoB)]; rfl)
    rw [ho] at HP
    clear hm hB hoB ho
    go_enter Try.func17, Try.ntmps17
    go_wp2_with (go_at_call 9; refine (HP.out _).mono ?_; rintro e w' ⟨rfl, rfl⟩)
    go_ret
    exact ⟨by rw [HV.out]; rfl, rfl⟩
  | false =>
    rw [ho] at HP
    rw [HS.out]
    obtain ⟨R, hR⟩ : ∃ R, R = addI (a : Int) (B : Int) := ⟨_, rfl⟩
    rw [← hR] at HA ⊢
    clear hm hB ho hR
    go_enter Try.func17, Try.ntmps17
    go_wp2_with (first
      | (go_at_call 9; refine (HP.out _).mono ?_; rintro e w' ⟨rfl, rfl⟩)
      | (go_at_call 22; refine (HM.out _).mono ?_; rintro e w' ⟨rfl, rfl⟩)
      | (go_at_call 15; refine (HA.out _).mono ?_; rintro e w' ⟨rfl, rfl⟩))
    go_ret
    exact ⟨rfl, rfl⟩

set_option maxHeartbeats 1000000 in
theorem numAdds_walk (a b : Int) (w : World) (ha : 0 ≤ a ∧ a ≤ 18446744073709551615) (hb : 0 ≤ b ∧ b ≤ 18446744073709551615) :
    Calls Try.prog 4 #[.int .u64 a, .int .u64 b] w fun e w' => e = .returned (.bool true) ∧ Kept (fun _ => False) w w' := by
  obtain ⟨x, rfl⟩ : ∃ x : Nat, a = x := ⟨a.toNat, by omega⟩
  obtain ⟨y, rfl⟩ : ∃ y : Nat, b = y := ⟨b.toNat, by omega⟩
  have hx : x < 18446744073709551616 := by omega
  have hy : y < 18446744073709551616 := by omega
  have A1 := Lib.hid (add_any (x : Int) (y : Int))
  have A2 := Lib.hid (refAdd_any x y hx hy)
  have S1 := Lib.hid (sub_any (x : Int) (y : Int))
  have S2 := Lib.hid (refSub_any x y hx hy)
  have L1 := Lib.hid (less_any (x : Int) (y : Int))
  have L2 := Lib.hid (refLess_any x y hx hy)
  rw [less_ref x y hx hy] at L1
  obtain ⟨P, hP⟩ : ∃ P, P = addI (x : Int) (y : Int) := ⟨_, rfl⟩
  obtain ⟨Q, hQ⟩ : ∃ Q, Q = subI (x : Int) (y : Int) := ⟨_, rfl⟩
  obtain ⟨L, hL⟩ : ∃ L, L = refLessN x y := ⟨_, rfl⟩
  rw [← hP] at A1 A2
  rw [← hQ] at S1 S2
  rw [← hL] at L1 L2
  have q1 : (P == P) = true := beq_iff_eq.2 rfl
  have q2 : (Q == Q) = true := beq_iff_eq.2 rfl
  have q3 : (L == L) = true := by simp
  clear hP hQ hL ha hb hx hy
  go_enter Try.func4, Try.ntmps4
  go_wp2_with (first
    | (go_at_call 7; refine (awake5_any _).mono ?_; rintro e w' ⟨rfl, q0, rfl⟩)
    | (go_at_call 14; refine (A1.out _).mono ?_; rintro e w' ⟨rfl, q4, rfl⟩)
    | (go_at_call 15; refine (A2.out _).mono ?_; rintro e w' ⟨rfl, rfl⟩)
    | (go_at_call 16; refine (S1.out _).mono ?_; rintro e w' ⟨rfl, q5, rfl⟩)
    | (go_at_call 17; refine (S2.out _).mono ?_; rintro e w' ⟨rfl, rfl⟩)
    | (go_at_call 18; refine (L1.out _).mono ?_; rintro e w' ⟨rfl, rfl⟩)
    | (go_at_call 19; refine (L2.out _).mono ?_; rintro e w' ⟨rfl, rfl⟩))
  go_ret
  exact ⟨rfl, (Kept.refl _ _).drewN _⟩
end Go.Proofs.Ythdlfjpdifipkaa
