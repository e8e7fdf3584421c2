/- The walk of 'NumPhasors'. -/
import Derived.Test.YthdlfjpdifipkaaN16
namespace Go.Proofs.Ythdlfjpdifipkaa
open Go.RowKit
attribute [local go_sem ↓] Go.wp_at_zero Go.wp_at_succ

/-- Where a phasor stands behind j turns. -/
def TurnAt (E F E2 F2 : Int) (j : Nat) (p q : Int) : Prop :=
  (j = 0 ∧ p = E ∧ q = F) ∨ (j = 1 ∧ p = F2 ∧ q = E) ∨ (j = 2 ∧ p = E2 ∧ q = F2) ∨ (j = 3 ∧ p = F ∧ q = E2) ∨ (j = 4 ∧ p = E ∧ q = F)

set_option maxHeartbeats 8000000 in
set_option maxRecDepth 100000 in
theorem numPhasors_walk (a b c d : Int) (w : World) (ha : 0 ≤ a ∧ a ≤ 18446744073709551615) (hb : 0 ≤ b ∧ b ≤ 18446744073709551615) (hc : 0 ≤ c ∧ c ≤ 18446744073709551615) (hd : 0 ≤ d ∧ d ≤ 18446744073709551615) :
    Calls Try.prog 6 #[.int .u64 a, .int .u64 b, .int .u64 c, .int .u64 d] w fun e w' => e = .returned (.bool true) ∧ Kept (fun _ => False) w w' := by
  have rM := fun (x : Int) (h : 0 ≤ x ∧ x ≤ 18446744073709551615) => minusI_range x h.1 h.2
  have rC := fun (x : Int) (h : 0 ≤ x ∧ x ≤ 18446744073709551615) => canonI_range x h.1 h.2
  have HRA : ∀ x y : Int, 0 ≤ x ∧ x ≤ 18446744073709551615 → 0 ≤ y ∧ y ≤ 18446744073709551615 → ∀ w, Calls Try.prog 15 #[.int .u64 x, .int .u64 y] w fun e w' => e = .returned (.int .u64 (addI x y)) ∧ w = w' := fun x y hx hy w => by
    obtain ⟨m, rfl⟩ : ∃ m : Nat, x = m := ⟨x.toNat, by omega⟩
    obtain ⟨n, rfl⟩ : ∃ n : Nat, y = n := ⟨y.toNat, by omega⟩
    exact refAdd_any m n (by omega) (by omega) w
  have HRS : ∀ x y : Int, 0 ≤ x ∧ x ≤ 18446744073709551615 → 0 ≤ y ∧ y ≤ 18446744073709551615 → ∀ w, Calls Try.prog 17 #[.int .u64 x, .int .u64 y] w fun e w' => e = .returned (.int .u64 (subI x y)) ∧ w = w' := fun x y hx hy w => by
    obtain ⟨m, rfl⟩ : ∃ m : Nat, x = m := ⟨x.toNat, by omega⟩
    obtain ⟨n, rfl⟩ : ∃ n : Nat, y = n := ⟨y.toNat, by omega⟩
    exact refSub_any m n (by omega) (by omega) w
  have AC := Lib.hid (HRA a c ha hc)
  have BD := Lib.hid (HRA b d hb hd)
  have SC := Lib.hid (HRS a c ha hc)
  have SD := Lib.hid (HRS b d hb hd)
  have AP := Lib.hid (addPhasor_any a b c d)
  have SP := Lib.hid (subPhasor_any a b c d)
  have hI := addI_range b d
  have hR := addI_range a c
  have TI := Lib.hid (turn_any (addI a c) (addI b d) hR.1 hR.2 hI.1 hI.2)
  rw [canon_addI a c] at TI
  have TA := Lib.hid (turn_any a b ha.1 ha.2 hb.1 hb.2)
  have TC := Lib.hid (turn_any c d hc.1 hc.2 hd.1 hd.2)
  have AQ := Lib.hid (addPhasor_any (canonI (minusI b)) (canonI a) (canonI (minusI d)) (canonI c))
  rw [addI_canon a c ha.1 ha.2 hc.1 hc.2, addI_canon (minusI b) (minusI d) (rM b hb).1 (rM b hb).2 (rM d hd).1 (rM d hd).2] at AQ
  have OI := Lib.hid (refOdd_any (addI b d) hI.1 hI.2)
  have MI := Lib.hid (refMinus_any (addI b d) hI.1 hI.2)
  have HX1 : Hid (oddI (addI b d) = true → canonI (minusI (addI b d)) = 9221120237041090561) := Lib.hid fun h => if_pos (by rw [odd_minus _ hI.1 hI.2]; exact h)
  have HX2 : Hid (oddI (addI b d) = false → canonI (minusI (addI b d)) = minusI (addI b d)) := Lib.hid fun h => if_neg (by rw [odd_minus _ hI.1 hI.2, h]; decide)
  have HX3 : Hid (addI b d % 9223372036854775808 ≠ 0 → addI (minusI b) (minusI d) = canonI (minusI (addI b d))) := Lib.hid fun h => addI_minus b d hb.1 hb.2 hd.1 hd.2 h
  -- the turned ones
  have hE := rC _ (rM b hb)
  have hF := rC a ha
  have hcE : canonI (canonI (minusI b)) = canonI (minusI b) := canonI_canonI _
  have hcF : canonI (canonI a) = canonI a := canonI_canonI _
  obtain ⟨E, hEe⟩ : ∃ E, E = canonI (minusI b) := ⟨_, rfl⟩
  obtain ⟨F, hFe⟩ : ∃ F, F = canonI a := ⟨_, rfl⟩
  rw [← hEe] at hE hcE TA AQ
  rw [← hFe] at hF hcF TA AQ
  have hE2 := rC _ (rM E hE)
  have hF2 := rC _ (rM F hF)
  have hEE : canonI (minusI (canonI (minusI E))) = E := by rw [canon_mm E hE.1 hE.2, hcE]
  have hFF : canonI (minusI (canonI (minusI F))) = F := by rw [canon_mm F hF.1 hF.2, hcF]
  have hcE2 : canonI (canonI (minusI E)) = canonI (minusI E) := canonI_canonI _
  have hcF2 : canonI (canonI (minusI F)) = canonI (minusI F) := canonI_canonI _
  obtain ⟨E2, hE2e⟩ : ∃ x, x = canonI (minusI E) := ⟨_, rfl⟩
  obtain ⟨F2, hF2e⟩ : ∃ x, x = canonI (minusI F) := ⟨_, rfl⟩
  rw [← hE2e] at hE2 hEE hcE2
  rw [← hF2e] at hF2 hFF hcF2
  have HTU : Hid (∀ (j : Nat) (p q : Int), TurnAt E F E2 F2 j p q → j < 4 → ∃ p2 q2, TurnAt E F E2 F2 (j + 1) p2 q2 ∧ ∀ w, Calls Try.prog 21 #[.int .u64 p, .int .u64 q] w fun e w' => e = .returned (.tuple #[.int .u64 p2, .int .u64 q2]) ∧ w = w') := Lib.hid fun j p q h hj => by
    rcases h with ⟨rfl, rfl, rfl⟩ | ⟨rfl, rfl, rfl⟩ | ⟨rfl, rfl, rfl⟩ | ⟨rfl, rfl, rfl⟩ | ⟨rfl, _⟩
    · refine ⟨F2, p, .inr (.inl ⟨rfl, rfl, rfl⟩), fun w => ?_⟩
      have := turn_any p q hE.1 hE.2 hF.1 hF.2 w
      rwa [← hF2e, hcE] at this
    · refine ⟨E2, p, .inr (.inr (.inl ⟨rfl, rfl, rfl⟩)), fun w => ?_⟩
      have := turn_any p q hF2.1 hF2.2 hE.1 hE.2 w
      rwa [← hE2e, hcF2] at this
    · refine ⟨F, p, .inr (.inr (.inr (.inl ⟨rfl, rfl, rfl⟩))), fun w => ?_⟩
      have := turn_any p q hE2.1 hE2.2 hF2.1 hF2.2 w
      rwa [hFF, hcE2] at this
    · refine ⟨E, p, .inr (.inr (.inr (.inr ⟨rfl, rfl, rfl⟩))), fun w => ?_⟩
      have := turn_any p q hF.1 hF.2 hE2.1 hE2.2 w
      rwa [hEE, hcF] at this
    · omega
  obtain ⟨R, hRe⟩ : ∃ R, R = addI a c := ⟨_, rfl⟩
  obtain ⟨I, hIe⟩ : ∃ I, I = addI b d := ⟨_, rfl⟩
  rw [← hRe] at AC AP TI AQ
  rw [← hIe] at BD AP TI OI MI HX1 HX2 HX3 hI
  obtain ⟨X, hXe⟩ : ∃ X, X = canonI (minusI I) := ⟨_, rfl⟩
  rw [← hXe] at TI HX1 HX2 HX3
  obtain ⟨MN, hMe⟩ : ∃ X, X = minusI I := ⟨_, rfl⟩
  rw [← hMe] at MI HX2
  obtain ⟨P, hPe⟩ : ∃ P, P = addI (minusI b) (minusI d) := ⟨_, rfl⟩
  rw [← hPe] at AQ HX3
  obtain ⟨G, hGe⟩ : ∃ G, G = canonI (minusI d) := ⟨_, rfl⟩
  obtain ⟨H, hHe⟩ : ∃ H, H = canonI c := ⟨_, rfl⟩
  rw [← hGe] at TC AQ
  rw [← hHe] at TC AQ
  obtain ⟨U, hUe⟩ : ∃ U, U = subI a c := ⟨_, rfl⟩
  obtain ⟨V, hVe⟩ : ∃ V, V = subI b d := ⟨_, rfl⟩
  rw [← hUe] at SC SP
  rw [← hVe] at SD SP
  obtain ⟨oi, hoe⟩ : ∃ o, o = oddI I := ⟨_, rfl⟩
  rw [← hoe] at OI HX1 HX2
  have I0 : (0 : Int) ≤ I := hI.1
  have n1 : (R != R) = false := by simp
  have n2 : (I != I) = false := by simp
  have n3 : (E == E) = true := by simp
  have n4 : (F == F) = true := by simp
  have n5 : (U == U) = true := by simp
  have n6 : (V == V) = true := by simp
  clear hRe hIe hXe hMe hPe hGe hHe hUe hVe hoe rM rC HRA HRS hEe hFe hE hF hcE hcF hE2 hF2 hEE hFF hcE2 hcF2 hE2e hF2e hR hI ha hb hc hd
  have hcase : (oi = true ∧ X = 9221120237041090561) ∨ (oi = false ∧ X = MN) := by
    cases oi with
    | true => exact .inl ⟨rfl, HX1.out rfl⟩
    | false => exact .inr ⟨rfl, HX2.out rfl⟩
  have hmod : (I % 9223372036854775808 = 0) ∨ (I % 9223372036854775808 ≠ 0 ∧ P = X) := by
    by_cases h : I % 9223372036854775808 = 0
    · exact .inl h
    · exact .inr ⟨h, HX3.out h⟩
  clear HX1 HX2 HX3
  rcases hcase with ⟨rfl, rfl⟩ | ⟨rfl, rfl⟩ <;> rcases hmod with hm | ⟨hm, rfl⟩
  all_goals
    first
      | (have z1 : (I % 9223372036854775808 != 0) = true := by simp; exact hm)
      | (have z1 : (I % 9223372036854775808 != 0) = false := by simp; exact hm)
    clear hm
    go_enter Try.func6, Try.ntmps6
    go_wp2_with (first
      | (go_at_call 7; refine (awake5_any _).mono ?_; rintro e w' ⟨rfl, q0, rfl⟩)
      | (go_at_call_of 20 a; refine (AP.out _).mono ?_; rintro e w' ⟨rfl, q1, rfl⟩)
      | (go_at_call_of 20 E; refine (AQ.out _).mono ?_; rintro e w' ⟨rfl, q2, rfl⟩)
      | (go_at_call_of 15 a; refine (AC.out _).mono ?_; rintro e w' ⟨rfl, rfl⟩)
      | (go_at_call_of 15 b; refine (BD.out _).mono ?_; rintro e w' ⟨rfl, rfl⟩)
      | (go_at_call_of 21 I; refine (TI.out _).mono ?_; rintro e w' ⟨rfl, rfl⟩)
      | (go_at_call_of 21 a; refine (TA.out _).mono ?_; rintro e w' ⟨rfl, rfl⟩)
      | (go_at_call_of 21 c; refine (TC.out _).mono ?_; rintro e w' ⟨rfl, rfl⟩)
      | (go_at_call 9; refine (OI.out _).mono ?_; rintro e w' ⟨rfl, rfl⟩)
      | (go_at_call 22; refine (MI.out _).mono ?_; rintro e w' ⟨rfl, rfl⟩))
    go_loopw [13, 14, 19] (fun x y t wr => ∃ (j : Nat) (p q : Int), j ≤ 4 ∧ x = .int .u64 p ∧ y = .int .u64 q ∧ t = .int .i64 j ∧ TurnAt E F E2 F2 j p q ∧ Kept (fun _ => False) w wr) (fun _ _ t _ => 4 - (intOf t).toNat)
    case atStart => exact ⟨0, E, F, by omega, rfl, rfl, rfl, .inl ⟨rfl, rfl, rfl⟩, (Kept.refl _ _).drewN _⟩
    case round =>
      obtain ⟨j, p, q, hj, rfl, rfl, rfl, ht, hk⟩ := hrel
      have HK := Lib.hid hk
      clear hk
      by_cases hj4 : j < 4
      · obtain ⟨p2, q2, ht2, hcall⟩ := HTU.out j p q ht hj4
        have HT2 := Lib.hid ht2
        have HCALL := Lib.hid hcall
        have l1 : decide ((j : Int) < 4) = true := decide_eq_true (by omega)
        have hj0 : (0 : Int) ≤ (j : Int) := by omega
        clear ht ht2 hcall
        go_wp2_with (go_at_call 21; refine (HCALL.out _).mono ?_; rintro e w' ⟨rfl, rfl⟩)
        go_roundw
        case rel =>
          first
            | exact ⟨j + 1, p2, q2, hj4, rfl, rfl, by go_num, HT2.out, HK.out⟩
            | exact ⟨_, _, .int .i64 ((j : Int) + 1), _, _, _, _, _, _, _, _, _, _, ⟨j + 1, p2, q2, hj4, rfl, rfl, by go_num, HT2.out, HK.out⟩, rfl⟩
        case measure => simp [intOf]; omega
      · have hj5 : j = 4 := by omega
        subst hj5
        have hpq : p = E ∧ q = F := by
          rcases ht with ⟨h, _⟩ | ⟨h, _⟩ | ⟨h, _⟩ | ⟨h, _⟩ | ⟨_, h1, h2⟩
          · omega
          · omega
          · omega
          · omega
          · exact ⟨h1, h2⟩
        obtain ⟨hp1, hq1⟩ := hpq
        subst hp1
        subst hq1
        clear ht
        go_wp2_with (first
          | (go_at_call 21; refine (TA.out _).mono ?_; rintro e w' ⟨rfl, rfl⟩)
          | (go_at_call 23; refine (SP.out _).mono ?_; rintro e w' ⟨rfl, q7, rfl⟩)
          | (go_at_call_of 17 a; refine (SC.out _).mono ?_; rintro e w' ⟨rfl, rfl⟩)
          | (go_at_call_of 17 b; refine (SD.out _).mono ?_; rintro e w' ⟨rfl, rfl⟩))
        go_ret
        exact ⟨rfl, HK.out.drewN _⟩
end Go.Proofs.Ythdlfjpdifipkaa
