/- package crc, layer 3: Of; the document's Step, More, Of. -/
import Derived.Test.YtanhdjdojeoodaaDoorC7
namespace Go.Proofs.YtanhdjdojeoodaaDoor
open Go.RowKit
attribute [local go_sem ↓] Go.wp_at_zero Go.wp_at_succ

set_option maxHeartbeats 1000000 in
theorem crcOf_any (v : Value) (l : List Nat) (hl : l.length ≤ 1000000000) (w : World) (HB : Row8 w v l) (HN : Nibs w) :
    Calls Tryd.prog 9 #[v] w fun e w' => e = .returned (.int .u32 ((crcMore 0 l : Nat) : Int)) ∧ w = w' := by
  go_enter Tryd.func9, Tryd.ntmps9
  go_wp2_with (go_at_call 11; refine (more_any 0 v l (by omega) hl _ HB HN).mono ?_; rintro e w' ⟨rfl, rfl⟩)
  go_ret
  exact ⟨rfl, rfl⟩

set_option maxHeartbeats 1000000 in
theorem refStep_any (n : Nat) (hn : n < 4294967296) (w : World) :
    Calls Tryd.prog 14 #[.int .u32 n] w fun e w' => e = .returned (.int .u32 ((stepN n : Nat) : Int)) ∧ w = w' := by
  have e4 : bits .xor .u32 ((n : Int) / 2) 2197175160 = ((n / 2 ^^^ poly : Nat) : Int) := by
    have := xor32 (n / 2) 2197175160 (by omega) (by omega)
    unfold poly
    rw [← this]; simp
  have HS : Hid (stepN n = if n % 2 = 1 then n / 2 ^^^ poly else n / 2) := Lib.hid rfl
  have h0 : (0 : Int) ≤ (n : Int) := by omega
  by_cases h : n % 2 = 1
  · have e5 : (n : Int) % 2 = 1 := by omega
    go_enter Tryd.func14, Tryd.ntmps14
    go_wp2
    go_ret
    exact ⟨by rw [HS.out, if_pos h]; rfl, rfl⟩
  · have e5 : (n : Int) % 2 = 0 := by omega
    go_enter Tryd.func14, Tryd.ntmps14
    go_wp2
    go_ret
    exact ⟨by rw [HS.out, if_neg h]; rfl, rfl⟩

theorem stepsN_snoc (k n : Nat) : stepN (stepsN k n) = stepsN (k + 1) n := (stepsN_add k 1 n).symm

set_option maxHeartbeats 1000000 in
theorem refMore_any (s : Nat) (v : Value) (l : List Nat) (hs : s < 4294967296) (hl : l.length ≤ 1000000000) (w : World) (HB : Row8 w v l) :
    Calls Tryd.prog 12 #[.int .u32 s, v] w fun e w' => e = .returned (.int .u32 ((moreN s l : Nat) : Int)) ∧ w = w' := by
  obtain ⟨ao, c, rfl, hb, hc⟩ := HB
  go_enter Tryd.func12, Tryd.ntmps12
  go_wp2
  go_loopw [0, 5] (fun x t wr => ∃ j : Nat, j ≤ l.length ∧ x = .int .u32 ((moreN s (l.take j) : Nat) : Int) ∧ t = .int .i64 j ∧ w = wr) (fun _ t _ => l.length - (intOf t).toNat)
  case atStart => exact ⟨0, by omega, by simp [moreN], rfl, rfl⟩
  case round =>
    obtain ⟨j, hj, rfl, rfl, rfl⟩ := hrel
    by_cases hd : j < l.length
    · have hd' : (j : Int) < (l.length : Int) := by omega
      have hj0 : (0 : Int) ≤ (j : Int) := by omega
      obtain ⟨a, rfl, hca⟩ := hc j hd
      have hT0 := getD_lt hb hd
      have HT := Lib.hid (takeSucc l j hd)
      have hV0 := moreN_lt s (l.take j) hs (fun x hx => hb x (List.mem_of_mem_take hx))
      obtain ⟨T, hT⟩ : ∃ T, T = l.getD j 0 := ⟨_, rfl⟩
      rw [← hT] at hca hT0 HT
      clear hT hc
      obtain ⟨V, hV⟩ : ∃ V, V = moreN s (l.take j) := ⟨_, rfl⟩
      rw [← hV] at hV0 ⊢
      have HV := Lib.hid hV
      clear hV
      have e1 : IntKind.u32.wrap (T : Int) = (T : Int) := by rw [IntKind.wrap_u32]; omega
      have e2 := xor32 V T hV0 (by omega)
      have hU0 : V ^^^ T < 4294967296 := Nat.xor_lt_two_pow (n := 32) hV0 (by omega)
      go_wp2
      clear e1 e2 hca
      go_loopw [0, 6] (fun x t wr => ∃ k : Nat, k ≤ 8 ∧ x = .int .u32 ((stepsN k (V ^^^ T) : Nat) : Int) ∧ t = .int .i64 k ∧ w = wr) (fun _ t _ => 8 - (intOf t).toNat)
      case atStart => exact ⟨0, by omega, rfl, rfl, rfl⟩
      case round =>
        obtain ⟨k, hk, rfl, rfl, rfl⟩ := hrel
        by_cases hd2 : k < 8
        · have hk' : (k : Int) < 8 := by omega
          have hk0 : (0 : Int) ≤ (k : Int) := by omega
          have hW0 := stepsN_lt k (V ^^^ T) hU0
          have HN4 := Lib.hid (stepsN_snoc k (V ^^^ T))
          obtain ⟨U, hU⟩ : ∃ U, U = stepsN k (V ^^^ T) := ⟨_, rfl⟩
          rw [← hU] at hW0 HN4 ⊢
          clear hU
          go_wp2_with (go_at_call 14; refine (refStep_any U hW0 _).mono ?_; rintro e w' ⟨rfl, rfl⟩)
          go_roundw
          case rel => exact ⟨k + 1, hd2, by rw [HN4.out], by go_num, trivial⟩
          case measure => simp [intOf]; omega
        · obtain rfl : k = 8 := by omega
          go_wp2
          go_roundw
          case rel => exact ⟨j + 1, hd, by rw [HT.out, moreN_snoc, ← HV.out], by go_num, trivial⟩
          case measure => simp [intOf]; omega
    · obtain rfl : j = l.length := by omega
      rw [List.take_length]
      clear hc
      go_wp2
      go_ret
      exact ⟨rfl, rfl⟩

set_option maxHeartbeats 1000000 in
theorem refOf_any (v : Value) (l : List Nat) (hl : l.length ≤ 1000000000) (w : World) (HB : Row8 w v l) :
    Calls Tryd.prog 10 #[v] w fun e w' => e = .returned (.int .u32 ((crcMore 0 l : Nat) : Int)) ∧ w = w' := by
  have hb : ∀ x ∈ l, x < 256 := by obtain ⟨_, _, _, hb, _⟩ := HB; exact hb
  have hM := moreN_lt 4294967295 l (by omega) hb
  have HJ : Hid (crcMore 0 l = 4294967295 - moreN 4294967295 l) := Lib.hid rfl
  have e1 : IntKind.u32.wrap (4294967295 - ((moreN 4294967295 l : Nat) : Int)) = ((4294967295 - moreN 4294967295 l : Nat) : Int) := by rw [IntKind.wrap_u32]; omega
  go_enter Tryd.func10, Tryd.ntmps10
  go_wp2_with (go_at_call 12; refine (refMore_any 4294967295 v l (by omega) hl _ HB).mono ?_; rintro e w' ⟨rfl, rfl⟩)
  go_ret
  exact ⟨by rw [HJ.out]; rfl, rfl⟩
end Go.Proofs.YtanhdjdojeoodaaDoor
