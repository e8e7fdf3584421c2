/- Layer 5: contracts of phasors. -/
import Derived.Test.YthdlfjpdifipkaaN14
import Derived.Test.YthdlfjpdifipkaaN15
namespace Go.Proofs.Ythdlfjpdifipkaa
open Go.RowKit
attribute [local go_sem ↓] Go.wp_at_zero Go.wp_at_succ

set_option maxHeartbeats 400000 in
theorem phasor_any (a b : Int) (w : World) :
    Calls Try.prog 29 #[.int .u64 a, .int .u64 b] w fun e w' => e = .returned (.complex .f64 a.toNat b.toNat) ∧ w = w' := by
  go_enter Try.func29, Try.ntmps29
  go_wp2_with (go_at_call 25; refine (float_any _ _).mono ?_; rintro e w' ⟨rfl, rfl⟩)
  go_ret
  exact ⟨rfl, rfl⟩

set_option maxHeartbeats 1000000 in
theorem addPhasor_any (a b c d : Int) (w : World) :
    Calls Try.prog 20 #[.int .u64 a, .int .u64 b, .int .u64 c, .int .u64 d] w fun e w' => Drawn w w' (e = .returned (.tuple #[.int .u64 (addI a c), .int .u64 (addI b d)])) := by
  obtain ⟨re, im, q, hrun, h1, h2, h3, h4⟩ := run_cadd (P := Try.prog) w 39 a.toNat b.toNat c.toNat d.toNat
  have e1 : addI a c = addI ((a.toNat : Nat) : Int) ((c.toNat : Nat) : Int) := by unfold addI; rw [Int.toNat_natCast, Int.toNat_natCast]
  have e2 : addI b d = addI ((b.toNat : Nat) : Int) ((d.toNat : Nat) : Int) := by unfold addI; rw [Int.toNat_natCast, Int.toNat_natCast]
  have H1 : Hid (canonI (re : Int) = addI a c) := Lib.hid (by rw [e1]; exact h1)
  have H2 : Hid (canonI (im : Int) = addI b d) := Lib.hid (by rw [e2]; exact h2)
  have T1 := Lib.hid (told_any re h3)
  have T2 := Lib.hid (told_any im h4)
  rw [H1.out] at T1
  rw [H2.out] at T2
  clear h1 h2 h3 h4 e1 e2 H1 H2
  go_enter Try.func20, Try.ntmps20
  go_wp2_with (first
    | (go_at_call 29; refine (phasor_any _ _ _).mono ?_; rintro e w' ⟨rfl, rfl⟩)
    | (go_at_call_of 24 re; refine (T1.out _).mono ?_; rintro e w' ⟨rfl, rfl⟩)
    | (go_at_call_of 24 im; refine (T2.out _).mono ?_; rintro e w' ⟨rfl, rfl⟩))
  go_ret2
  exact ⟨rfl, q, rfl⟩
set_option maxHeartbeats 1000000 in
theorem subPhasor_any (a b c d : Int) (w : World) :
    Calls Try.prog 23 #[.int .u64 a, .int .u64 b, .int .u64 c, .int .u64 d] w fun e w' => Drawn w w' (e = .returned (.tuple #[.int .u64 (subI a c), .int .u64 (subI b d)])) := by
  obtain ⟨re, im, q, hrun, h1, h2, h3, h4⟩ := run_csub (P := Try.prog) w 39 a.toNat b.toNat c.toNat d.toNat
  have e1 : subI a c = subI ((a.toNat : Nat) : Int) ((c.toNat : Nat) : Int) := by unfold subI; rw [Int.toNat_natCast, Int.toNat_natCast]
  have e2 : subI b d = subI ((b.toNat : Nat) : Int) ((d.toNat : Nat) : Int) := by unfold subI; rw [Int.toNat_natCast, Int.toNat_natCast]
  have H1 : Hid (canonI (re : Int) = subI a c) := Lib.hid (by rw [e1]; exact h1)
  have H2 : Hid (canonI (im : Int) = subI b d) := Lib.hid (by rw [e2]; exact h2)
  have T1 := Lib.hid (told_any re h3)
  have T2 := Lib.hid (told_any im h4)
  rw [H1.out] at T1
  rw [H2.out] at T2
  clear h1 h2 h3 h4 e1 e2 H1 H2
  go_enter Try.func23, Try.ntmps23
  go_wp2_with (first
    | (go_at_call 29; refine (phasor_any _ _ _).mono ?_; rintro e w' ⟨rfl, rfl⟩)
    | (go_at_call_of 24 re; refine (T1.out _).mono ?_; rintro e w' ⟨rfl, rfl⟩)
    | (go_at_call_of 24 im; refine (T2.out _).mono ?_; rintro e w' ⟨rfl, rfl⟩))
  go_ret2
  exact ⟨rfl, q, rfl⟩
set_option maxHeartbeats 1000000 in
theorem turn_any (a b : Int) (a0 : 0 ≤ a) (a1 : a ≤ 18446744073709551615) (b0 : 0 ≤ b) (b1 : b ≤ 18446744073709551615) (w : World) :
    Calls Try.prog 21 #[.int .u64 a, .int .u64 b] w fun e w' => e = .returned (.tuple #[.int .u64 (canonI (minusI b)), .int .u64 (canonI a)]) ∧ w = w' := by
  have hx := xor_sign b b0 b1
  have hm := minusI_range b b0 b1
  have C1 := Lib.hid (canon_any (minusI b) hm.1 hm.2)
  have C2 := Lib.hid (canon_any a a0 a1)
  obtain ⟨M, hM⟩ : ∃ M, M = minusI b := ⟨_, rfl⟩
  rw [← hM] at hx C1 ⊢
  clear hM hm
  go_enter Try.func21, Try.ntmps21
  go_wp2_with (first
    | (go_at_call_of 12 M; refine (C1.out _).mono ?_; rintro e w' ⟨rfl, rfl⟩)
    | (go_at_call_of 12 a; refine (C2.out _).mono ?_; rintro e w' ⟨rfl, rfl⟩))
  go_ret2
  exact ⟨rfl, rfl⟩
end Go.Proofs.Ythdlfjpdifipkaa
