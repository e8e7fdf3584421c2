/- package frame, layer 4: number; Wrap of too much. -/
import Derived.Test.YtficodklidaheaaDoorF2
import Derived.Deep.QuietTactic
import Derived.BigQuiet
namespace Go.Proofs.YtficodklidaheaaDoor
open Go.RowKit
attribute [local go_sem ↓] Go.wp_at_zero Go.wp_at_succ

theorem or32_join (a b s : Nat) (ha : a < 2 ^ s) (hm : b % 2 ^ s = 0) (hb : b < 4294967296) (ha' : a < 4294967296) : bits .or .u32 (a : Int) (b : Int) = ((a + b : Nat) : Int) := by
  have h := u32_or_nat a b (by omega) (by omega)
  rw [Nat.or_comm, nat_join s b a hm ha, Nat.add_comm] at h
  exact h

set_option maxHeartbeats 1000000 in
theorem number_any (v : Value) (l : List Nat) (hl : l.length = 4) (w : World) (HB : Row8 w v l) :
    Calls Tryd.prog 57 #[v] w fun e w' => e = .returned (.int .u32 ((numL l : Nat) : Int)) ∧ ∃ q, w' = w.drewN q := by
  obtain ⟨ao, c, rfl, hb, hc⟩ := HB
  obtain ⟨a, rfl, h0⟩ := hc 0 (by omega)
  obtain ⟨_, e, h1⟩ := hc 1 (by omega)
  cases e
  obtain ⟨_, e, h2⟩ := hc 2 (by omega)
  cases e
  obtain ⟨_, e, h3⟩ := hc 3 (by omega)
  cases e
  have b0 := getD_lt hb (j := 0) (by omega)
  have b1 := getD_lt hb (j := 1) (by omega)
  have b2 := getD_lt hb (j := 2) (by omega)
  have b3 := getD_lt hb (j := 3) (by omega)
  have HL : Hid (numL l = l.getD 0 0 + 256 * l.getD 1 0 + 65536 * l.getD 2 0 + 16777216 * l.getD 3 0) := Lib.hid rfl
  obtain ⟨A, hA⟩ : ∃ A, A = l.getD 0 0 := ⟨_, rfl⟩
  obtain ⟨B, hB⟩ : ∃ B, B = l.getD 1 0 := ⟨_, rfl⟩
  obtain ⟨C, hC⟩ : ∃ C, C = l.getD 2 0 := ⟨_, rfl⟩
  obtain ⟨D, hD⟩ : ∃ D, D = l.getD 3 0 := ⟨_, rfl⟩
  rw [← hA] at h0 b0 HL
  rw [← hB] at h1 b1 HL
  rw [← hC] at h2 b2 HL
  rw [← hD] at h3 b3 HL
  rw [hl]
  simp [Addr.add] at h0 h1 h2 h3
  have w0 : IntKind.u32.wrap (A : Int) = (A : Int) := by rw [IntKind.wrap_u32]; omega
  have w1 : IntKind.u32.wrap (B : Int) = (B : Int) := by rw [IntKind.wrap_u32]; omega
  have w2 : IntKind.u32.wrap (C : Int) = (C : Int) := by rw [IntKind.wrap_u32]; omega
  have w3 : IntKind.u32.wrap (D : Int) = (D : Int) := by rw [IntKind.wrap_u32]; omega
  have s1 : IntKind.u32.wrap ((B : Int) * 256) = ((256 * B : Nat) : Int) := by rw [IntKind.wrap_u32]; omega
  have s2 : IntKind.u32.wrap ((C : Int) * 65536) = ((65536 * C : Nat) : Int) := by rw [IntKind.wrap_u32]; omega
  have s3 : IntKind.u32.wrap ((D : Int) * 16777216) = ((16777216 * D : Nat) : Int) := by rw [IntKind.wrap_u32]; omega
  have o1 := or32_join A (256 * B) 8 (by omega) (by omega) (by omega) (by omega)
  have o2 := or32_join (A + 256 * B) (65536 * C) 16 (by omega) (by omega) (by omega) (by omega)
  have o3 := or32_join (A + 256 * B + 65536 * C) (16777216 * D) 24 (by omega) (by omega) (by omega) (by omega)
  have OO : bits .or .u32 (bits .or .u32 (bits .or .u32 (A : Int) (256 * (B : Int))) (65536 * (C : Int))) (16777216 * (D : Int)) = ((numL l : Nat) : Int) := by
    rw [show (256 * (B : Int)) = ((256 * B : Nat) : Int) by simp, show (65536 * (C : Int)) = ((65536 * C : Nat) : Int) by simp, show (16777216 * (D : Int)) = ((16777216 * D : Nat) : Int) by simp, o1, o2, o3, ← HL.out]
  have HO := Lib.hid OO
  clear OO o1 o2 o3 hc hb hA hB hC hD hl b0 b1 b2 b3
  go_enter Tryd.func57, Tryd.ntmps57
  go_wp2
  go_quiet (fail)
  go_wp2
  go_ret
  exact ⟨by rw [← HO.out]; rfl, _, rfl⟩
end Go.Proofs.YtficodklidaheaaDoor
