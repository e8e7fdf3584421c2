/- Layer 15: Wide (written by tools/gen_XO6.py). -/
import Derived.Test.YtiiibhdohlpodaaO3
namespace Go.Proofs.Ytiiibhdohlpodaa
open Go.RowKit
attribute [local go_sem ↓] Go.wp_at_zero Go.wp_at_succ

set_option maxHeartbeats 4000000 in
theorem wide_no (a b : Int) (ha : I64 a) (hb : I64 b) (hab : I64 (a + b)) (w : World) : Calls Try.prog 15 #[.int .i64 a, .int .i64 b, .bool false] w fun e w' => e = .returned (.bool false) ∧ w = w' := by
  unfold I64 at ha hb hab
  have t1 : a.tdiv 2 * 2 + a.tmod 2 = a := by have := Int.mul_tdiv_add_tmod a 2; omega
  have t2 : b.tdiv 2 * 2 + b.tmod 2 = b := by have := Int.mul_tdiv_add_tmod b 2; omega
  have t3 : -2 < a.tmod 2 ∧ a.tmod 2 < 2 := by have h1 := Int.tmod_lt_of_pos a (b := 2) (by omega); have h2 := Int.lt_tmod_of_pos a (b := 2) (by omega); omega
  have t4 : -2 < b.tmod 2 ∧ b.tmod 2 < 2 := by have h1 := Int.tmod_lt_of_pos b (b := 2) (by omega); have h2 := Int.lt_tmod_of_pos b (b := 2) (by omega); omega
  have e1 : wrap64 (a.tdiv 2) = a.tdiv 2 := by unfold wrap64; omega
  have e2 : wrap64 (b.tdiv 2) = b.tdiv 2 := by unfold wrap64; omega
  obtain ⟨h, hh⟩ : ∃ h, h = a.tdiv 2 := ⟨_, rfl⟩
  obtain ⟨r, hr⟩ : ∃ h, h = a.tmod 2 := ⟨_, rfl⟩
  obtain ⟨k, hk⟩ : ∃ h, h = b.tdiv 2 := ⟨_, rfl⟩
  obtain ⟨q, hq⟩ : ∃ h, h = b.tmod 2 := ⟨_, rfl⟩
  have f1 := hh.symm
  have f2 := hr.symm
  have f3 := hk.symm
  have f4 := hq.symm
  rw [f1] at e1
  rw [f3] at e2
  rw [f1, f2] at t1
  rw [f3, f4] at t2
  rw [f2] at t3
  rw [f4] at t4
  clear hh hr hk hq
  have e3 : wrap64 (h + k) = h + k := by unfold wrap64; omega
  obtain ⟨H, hH⟩ : ∃ H, H = h + k := ⟨_, rfl⟩
  have f5 := hH.symm
  rw [f5] at e3
  obtain ⟨T, hT⟩ : ∃ T, T = r + q := ⟨_, rfl⟩
  have f6 := hT.symm
  have t5 : H * 2 + T = a + b := by omega
  have t6 : T = -2 ∨ T = -1 ∨ T = 0 ∨ T = 1 ∨ T = 2 := by omega
  clear hH hT t1 t2 t3 t4
  rcases t6 with e | e | e | e | e
  · subst e
    obtain ⟨J, hJ⟩ : ∃ J, J = H - 1 := ⟨_, rfl⟩
    have e4 : wrap64 (H - 1) = J := by unfold wrap64; omega
    have c1 : decide (4611686018427387904 < J) = false := decide_eq_false (by omega)
    have c2 : decide (J < -4611686018427387904) = false := decide_eq_false (by omega)
    have c3 : (J == 4611686018427387904) = false := by rw [beq_eq_false_iff_ne]; omega
    by_cases x1 : J = -4611686018427387904
    · have c4 : (J == -4611686018427387904) = true := by rw [beq_iff_eq]; exact x1
      clear ha hb hab t5 hJ x1
      go_enter Try.func15, Try.ntmps15
      go_wp2
      go_ret
      exact ⟨rfl, rfl⟩
    · have c4 : (J == -4611686018427387904) = false := by rw [beq_eq_false_iff_ne]; exact x1
      clear ha hb hab t5 hJ x1
      go_enter Try.func15, Try.ntmps15
      go_wp2
      go_ret
      exact ⟨rfl, rfl⟩
  · subst e
    have c1 : decide (4611686018427387904 < H) = false := decide_eq_false (by omega)
    have c2 : decide (H < -4611686018427387904) = false := decide_eq_false (by omega)
    by_cases x1 : H = 4611686018427387904
    · have c3 : (H == 4611686018427387904) = true := by rw [beq_iff_eq]; exact x1
      clear ha hb hab t5 x1
      go_enter Try.func15, Try.ntmps15
      go_wp2
      go_ret
      exact ⟨rfl, rfl⟩
    · have c3 : (H == 4611686018427387904) = false := by rw [beq_eq_false_iff_ne]; exact x1
      have c4 : (H == -4611686018427387904) = false := by rw [beq_eq_false_iff_ne]; omega
      clear ha hb hab t5 x1
      go_enter Try.func15, Try.ntmps15
      go_wp2
      go_ret
      exact ⟨rfl, rfl⟩
  · subst e
    have c1 : decide (4611686018427387904 < H) = false := decide_eq_false (by omega)
    have c2 : decide (H < -4611686018427387904) = false := decide_eq_false (by omega)
    have c3 : (H == 4611686018427387904) = false := by rw [beq_eq_false_iff_ne]; omega
    by_cases x1 : H = -4611686018427387904
    · have c4 : (H == -4611686018427387904) = true := by rw [beq_iff_eq]; exact x1
      clear ha hb hab t5 x1
      go_enter Try.func15, Try.ntmps15
      go_wp2
      go_ret
      exact ⟨rfl, rfl⟩
    · have c4 : (H == -4611686018427387904) = false := by rw [beq_eq_false_iff_ne]; exact x1
      clear ha hb hab t5 x1
      go_enter Try.func15, Try.ntmps15
      go_wp2
      go_ret
      exact ⟨rfl, rfl⟩
  · subst e
    have c1 : decide (4611686018427387904 < H) = false := decide_eq_false (by omega)
    have c2 : decide (H < -4611686018427387904) = false := decide_eq_false (by omega)
    have c3 : (H == 4611686018427387904) = false := by rw [beq_eq_false_iff_ne]; omega
    by_cases x1 : H = -4611686018427387904
    · have c4 : (H == -4611686018427387904) = true := by rw [beq_iff_eq]; exact x1
      clear ha hb hab t5 x1
      go_enter Try.func15, Try.ntmps15
      go_wp2
      go_ret
      exact ⟨rfl, rfl⟩
    · have c4 : (H == -4611686018427387904) = false := by rw [beq_eq_false_iff_ne]; exact x1
      clear ha hb hab t5 x1
      go_enter Try.func15, Try.ntmps15
      go_wp2
      go_ret
      exact ⟨rfl, rfl⟩
  · subst e
    obtain ⟨J, hJ⟩ : ∃ J, J = H + 1 := ⟨_, rfl⟩
    have e4 : wrap64 (H + 1) = J := by unfold wrap64; omega
    have c1 : decide (4611686018427387904 < J) = false := decide_eq_false (by omega)
    have c2 : decide (J < -4611686018427387904) = false := decide_eq_false (by omega)
    have c3 : (J == 4611686018427387904) = false := by rw [beq_eq_false_iff_ne]; omega
    by_cases x1 : J = -4611686018427387904
    · have c4 : (J == -4611686018427387904) = true := by rw [beq_iff_eq]; exact x1
      clear ha hb hab t5 hJ x1
      go_enter Try.func15, Try.ntmps15
      go_wp2
      go_ret
      exact ⟨rfl, rfl⟩
    · have c4 : (J == -4611686018427387904) = false := by rw [beq_eq_false_iff_ne]; exact x1
      clear ha hb hab t5 hJ x1
      go_enter Try.func15, Try.ntmps15
      go_wp2
      go_ret
      exact ⟨rfl, rfl⟩
end Go.Proofs.Ytiiibhdohlpodaa
