/- package num, layer 5: contracts; awake. -/
import Derived.Test.YthdlfjpdifipkaaRows
import Derived.Test.YthdlfjpdifipkaaN0
import Derived.Outline
namespace Go.Proofs.Ythdlfjpdifipkaa
open Go.RowKit

theorem fromBits_run (a : Int) (w : World) : (callFunc 31 #[.int .u64 a]).run Try.prog w = .ok (.value (.float .f64 a.toNat)) w := by kernel_rfl
theorem toBits_run (b : Nat) (w : World) : (callFunc 30 #[.float .f64 b]).run Try.prog w = .ok (.value (.int .u64 b)) w := by kernel_rfl

set_option maxHeartbeats 400000 in
theorem float_any (a : Int) (w : World) :
    Calls Try.prog 25 #[.int .u64 a] w fun e w' => e = .returned (.float .f64 a.toNat) ∧ w = w' := by
  have hf := fromBits_run
  go_enter Try.func25, Try.ntmps25
  go_wp2
  go_ret
  exact ⟨rfl, rfl⟩

set_option maxHeartbeats 400000 in
theorem odd_any (a : Int) (h0 : 0 ≤ a) (h1 : a ≤ 18446744073709551615) (w : World) :
    Calls Try.prog 8 #[.int .u64 a] w fun e w' => e = .returned (.bool (oddI a)) ∧ w = w' := by
  go_enter Try.func8, Try.ntmps8
  go_wp2
  go_ret
  exact ⟨ret_bool (odd_bits a h0 h1), rfl⟩

set_option maxHeartbeats 400000 in
theorem finite_any (a : Int) (h0 : 0 ≤ a) (h1 : a ≤ 18446744073709551615) (w : World) :
    Calls Try.prog 10 #[.int .u64 a] w fun e w' => e = .returned (.bool (finI a)) ∧ w = w' := by
  go_enter Try.func10, Try.ntmps10
  go_wp2
  go_ret
  exact ⟨ret_bool (finite_bits a h0 h1), rfl⟩

set_option maxHeartbeats 400000 in
theorem canon_any (a : Int) (h0 : 0 ≤ a) (h1 : a ≤ 18446744073709551615) (w : World) :
    Calls Try.prog 12 #[.int .u64 a] w fun e w' => e = .returned (.int .u64 (canonI a)) ∧ w = w' := by
  by_cases h : oddI a = true
  · have HC : Hid (canonI a = 9221120237041090561) := if_pos h
    go_enter Try.func12, Try.ntmps12
    go_wp2_with (go_at_call 8; refine (odd_any a h0 h1 _).mono ?_; rintro e w' ⟨rfl, rfl⟩)
    go_ret
    exact ⟨ret_int HC.out.symm, rfl⟩
  · have HC : Hid (canonI a = a) := if_neg h
    have h' : oddI a = false := by simpa using h
    clear h
    go_enter Try.func12, Try.ntmps12
    go_wp2_with (go_at_call 8; refine (odd_any a h0 h1 _).mono ?_; rintro e w' ⟨rfl, rfl⟩)
    go_ret
    exact ⟨ret_int HC.out.symm, rfl⟩

set_option maxHeartbeats 400000 in
theorem told_any (b : Nat) (h1 : (b : Int) ≤ 18446744073709551615) (w : World) :
    Calls Try.prog 24 #[.float .f64 b] w fun e w' => e = .returned (.int .u64 (canonI b)) ∧ w = w' := by
  have hf := toBits_run
  go_enter Try.func24, Try.ntmps24
  go_wp2_with (go_at_call 12; refine (canon_any b (by omega) h1 _).mono ?_; rintro e w' ⟨rfl, rfl⟩)
  go_ret
  exact ⟨rfl, rfl⟩

theorem run_add_none {P : Program} (w : World) (t : TypeId) (x y : Nat) (h : floatBits .add .f64 x y = none) : (binOp .add t (.float .f64 x) (.float .f64 y)).run P w = .ok (.float .f64 (nanOf w x y)) w.drew := by
  unfold floatBits at h
  simp [binOp, Op.floatArith, h, Question.forced, nanOf]
theorem run_sub_none {P : Program} (w : World) (t : TypeId) (x y : Nat) (h : floatBits .sub .f64 x y = none) : (binOp .sub t (.float .f64 x) (.float .f64 y)).run P w = .ok (.float .f64 (nanOf w x y)) w.drew := by
  unfold floatBits at h
  simp [binOp, Op.floatArith, h, Question.forced, nanOf]

theorem bits_lt {op : BinOp} {x y r : Nat} (h : floatBits op .f64 x y = some r) : (r : Int) ≤ 18446744073709551615 := by
  have := floatBits_wf h
  simp [Lit.wf] at this
  omega

/-- The world is as it was, but for draws. -/
def Drawn (w w' : World) (P : Prop) : Prop := P ∧ ∃ q, w' = w.drewN q

set_option maxHeartbeats 400000 in
theorem add_any (a b : Int) (w : World) :
    Calls Try.prog 14 #[.int .u64 a, .int .u64 b] w fun e w' => Drawn w w' (e = .returned (.int .u64 (addI a b))) := by
  cases hr : floatBits .add .f64 a.toNat b.toNat with
  | some r =>
    have HA : Hid (addI a b = canonI r) := by show _ = _; unfold addI; rw [hr]
    have hb := bits_lt hr
    have run := fun (w : World) (t : TypeId) => run_float_arith (P := Try.prog) w .add t .f64 a.toNat b.toNat r hr
    clear hr
    go_enter Try.func14, Try.ntmps14
    go_wp2_with (first | (go_at_call 25; refine (float_any _ _).mono ?_; rintro e w' ⟨rfl, rfl⟩) | (go_at_call 24; refine (told_any r hb _).mono ?_; rintro e w' ⟨rfl, rfl⟩))
    go_ret
    exact ⟨ret_int HA.out.symm, 0, rfl⟩
  | none =>
    have HA : Hid (addI a b = 9221120237041090561) := by show _ = _; unfold addI; rw [hr]
    have run := fun (w : World) (t : TypeId) => run_add_none (P := Try.prog) w t a.toNat b.toNat hr
    have HO := Lib.hid fun w => nanOf_odd w a.toNat b.toNat
    clear hr
    go_enter Try.func14, Try.ntmps14
    go_wp2_with (first | (go_at_call 25; refine (float_any _ _).mono ?_; rintro e w' ⟨rfl, rfl⟩) | (go_at_call 24; refine (told_any _ (HO.out _).2 _).mono ?_; rintro e w' ⟨rfl, rfl⟩))
    go_ret
    exact ⟨ret_int (by rw [HA.out]; exact if_pos (HO.out _).1), 1, rfl⟩

set_option maxHeartbeats 400000 in
theorem sub_any (a b : Int) (w : World) :
    Calls Try.prog 16 #[.int .u64 a, .int .u64 b] w fun e w' => Drawn w w' (e = .returned (.int .u64 (subI a b))) := by
  cases hr : floatBits .sub .f64 a.toNat b.toNat with
  | some r =>
    have HA : Hid (subI a b = canonI r) := by show _ = _; unfold subI; rw [hr]
    have hb := bits_lt hr
    have run := fun (w : World) (t : TypeId) => run_float_arith (P := Try.prog) w .sub t .f64 a.toNat b.toNat r hr
    clear hr
    go_enter Try.func16, Try.ntmps16
    go_wp2_with (first | (go_at_call 25; refine (float_any _ _).mono ?_; rintro e w' ⟨rfl, rfl⟩) | (go_at_call 24; refine (told_any r hb _).mono ?_; rintro e w' ⟨rfl, rfl⟩))
    go_ret
    exact ⟨ret_int HA.out.symm, 0, rfl⟩
  | none =>
    have HA : Hid (subI a b = 9221120237041090561) := by show _ = _; unfold subI; rw [hr]
    have run := fun (w : World) (t : TypeId) => run_sub_none (P := Try.prog) w t a.toNat b.toNat hr
    have HO := Lib.hid fun w => nanOf_odd w a.toNat b.toNat
    clear hr
    go_enter Try.func16, Try.ntmps16
    go_wp2_with (first | (go_at_call 25; refine (float_any _ _).mono ?_; rintro e w' ⟨rfl, rfl⟩) | (go_at_call 24; refine (told_any _ (HO.out _).2 _).mono ?_; rintro e w' ⟨rfl, rfl⟩))
    go_ret
    exact ⟨ret_int (by rw [HA.out]; exact if_pos (HO.out _).1), 1, rfl⟩
end Go.Proofs.Ythdlfjpdifipkaa
