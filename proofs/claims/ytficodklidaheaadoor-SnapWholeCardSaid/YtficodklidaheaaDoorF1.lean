/- package crc's More and Of, in a seat that has no Join: the pieces of C3, C7, C8. -/
import Derived.Test.YtficodklidaheaaDoorRows
import Derived.Test.YtficodklidaheaaDoorC1
import Derived.Test.YtficodklidaheaaDoorL3
import Derived.Lib.Hide
import Derived.Deep.DrawnRows
import Derived.Outline
namespace Go.Proofs.YtficodklidaheaaDoor
open Go.RowKit
attribute [local go_sem ↓] Go.wp_at_zero Go.wp_at_succ

theorem xor32 (a b : Nat) (ha : a < 4294967296) (hb : b < 4294967296) : bits .xor .u32 (a : Int) (b : Int) = ((a ^^^ b : Nat) : Int) := u32_xor_nat a b (by omega) (by omega)
theorem and32_1 (a : Nat) (ha : a < 4294967296) : bits .and .u32 (a : Int) 1 = ((a % 2 : Nat) : Int) := by
  have h := u32_and_nat a 1 (by omega) (by omega)
  rw [Nat.and_two_pow_sub_one_eq_mod a 1] at h
  exact h
theorem and32_15 (a : Nat) (ha : a < 4294967296) : bits .and .u32 (a : Int) 15 = ((a % 16 : Nat) : Int) := by
  have h := u32_and_nat a 15 (by omega) (by omega)
  rw [Nat.and_two_pow_sub_one_eq_mod a 4] at h
  exact h
theorem and32_bit (a j : Nat) (ha : a < 4294967296) : bits .and .u32 ((a : Int) / 2 ^ j) 1 = ((a / 2 ^ j % 2 : Nat) : Int) := by
  have e : (a : Int) / 2 ^ j = ((a / 2 ^ j : Nat) : Int) := by simp
  rw [e]
  exact and32_1 _ (Nat.lt_of_le_of_lt (Nat.div_le_self _ _) ha)

/-- The value v is a slice that reads as the bytes l. -/
def Row8 (w : World) (v : Value) (l : List Nat) : Prop :=
  ∃ (ao : Option Addr) (c : Nat), v = .slice ao l.length c ∧ (∀ x ∈ l, x < 256) ∧ ∀ j, j < l.length → ∃ a, ao = some a ∧ w.cell? (a.add j) = some (.int .u8 ((l.getD j 0 : Nat) : Int))
theorem Row8.kept {w w' : World} {v : Value} {l : List Nat} (h : Row8 w v l) (hk : Kept (fun _ => False) w w') : Row8 w' v l := by
  obtain ⟨ao, c, hv, hb, hc⟩ := h
  refine ⟨ao, c, hv, hb, fun j hj => ?_⟩
  obtain ⟨a, ha, h1⟩ := hc j hj
  exact ⟨a, ha, hk.cell h1 fun x => x⟩
/-- The table of the program's own variable. -/
def Nibs (w : World) : Prop := ∀ j, j < 16 → w.cell? ⟨0, j, none⟩ = some (.int .u32 ((nibL.getD j 0 : Nat) : Int))
theorem Nibs.kept {w w' : World} (h : Nibs w) (hk : Kept (fun _ => False) w w') : Nibs w' := fun j hj => hk.cell (h j hj) fun x => x
theorem nib_lt : ∀ n : Fin 16, nibL.getD n.val 0 < 4294967296 := by decide
theorem xor32_max (n : Nat) (h : n < 4294967296) : bits .xor .u32 IntKind.u32.max (n : Int) = ((4294967295 - n : Nat) : Int) := by
  have e := xor32 4294967295 n (by omega) h
  rw [Nat.xor_comm, ← not_xor n h] at e
  exact e
theorem takeSucc (l : List Nat) (j : Nat) (h : j < l.length) : l.take (j + 1) = l.take j ++ [l.getD j 0] := by
  rw [List.take_add_one, List.getD_eq_getElem?_getD, List.getElem?_eq_getElem h]; rfl
theorem getD_lt {l : List Nat} {B : Nat} (hb : ∀ x ∈ l, x < B) {j : Nat} (h : j < l.length) : l.getD j 0 < B := by
  apply hb
  rw [List.getD_eq_getElem?_getD, List.getElem?_eq_getElem h]; simp

set_option maxHeartbeats 1000000 in
theorem more_any (s : Nat) (v : Value) (l : List Nat) (hs : s < 4294967296) (hl : l.length ≤ 1000000000) (w : World) (HB : Row8 w v l) (HN : Nibs w) :
    Calls Tryd.prog 58 #[.int .u32 s, v] w fun e w' => e = .returned (.int .u32 ((crcMore s l : Nat) : Int)) ∧ w = w' := by
  obtain ⟨ao, c, rfl, hb, hc⟩ := HB
  have HJ : Hid (crcMore s l = 4294967295 - moreN (4294967295 - s) l) := Lib.hid rfl
  have e0 := xor32_max s hs
  go_enter Tryd.func58, Tryd.ntmps58
  go_wp2
  go_loopw [5, 12] (fun x t wr => ∃ j : Nat, j ≤ l.length ∧ x = .int .u32 ((moreN (4294967295 - s) (l.take j) : Nat) : Int) ∧ t = .int .i64 j ∧ w = wr) (fun _ t _ => l.length - (intOf t).toNat)
  case atStart => exact ⟨0, by omega, by simp [moreN], rfl, rfl⟩
  case round =>
    obtain ⟨j, hj, rfl, rfl, rfl⟩ := hrel
    by_cases hd : j < l.length
    · have hd' : (j : Int) < (l.length : Int) := by omega
      have hj0 : (0 : Int) ≤ (j : Int) := by omega
      obtain ⟨a, rfl, hca⟩ := hc j hd
      have hT0 := getD_lt hb hd
      have HT := Lib.hid (takeSucc l j hd)
      have hV0 := moreN_lt (4294967295 - s) (l.take j) (by omega) (fun x hx => hb x (List.mem_of_mem_take hx))
      obtain ⟨T, hT⟩ : ∃ T, T = l.getD j 0 := ⟨_, rfl⟩
      rw [← hT] at hca hT0 HT
      clear hT hc
      obtain ⟨V, hV⟩ : ∃ V, V = moreN (4294967295 - s) (l.take j) := ⟨_, rfl⟩
      rw [← hV] at hV0 ⊢
      have HV := Lib.hid hV
      clear hV
      have e1 : IntKind.u32.wrap (T : Int) = (T : Int) := by rw [IntKind.wrap_u32]; omega
      have e2 := xor32 V T hV0 (by omega)
      have hU0 : V ^^^ T < 4294967296 := Nat.xor_lt_two_pow (n := 32) hV0 (by omega)
      have HE2 := Lib.hid e2
      go_wp2
      clear e0 e1 e2 hca
      go_loopw [5, 20] (fun x t wr => ∃ k : Nat, k ≤ 2 ∧ x = .int .u32 ((stepsN (4 * k) (V ^^^ T) : Nat) : Int) ∧ t = .int .i64 k ∧ w = wr) (fun _ t _ => 2 - (intOf t).toNat)
      case atStart => exact ⟨0, by omega, rfl, rfl, rfl⟩
      case round =>
        obtain ⟨k, hk, rfl, rfl, rfl⟩ := hrel
        by_cases hd2 : k < 2
        · have hk' : (k : Int) < 2 := by omega
          have hk0 : (0 : Int) ≤ (k : Int) := by omega
          have hW0 := stepsN_lt (4 * k) (V ^^^ T) hU0
          obtain ⟨U, hU⟩ : ∃ U, U = stepsN (4 * k) (V ^^^ T) := ⟨_, rfl⟩
          rw [← hU] at hW0 ⊢
          have hn4 : stepsN (4 * (k + 1)) (V ^^^ T) = U / 16 ^^^ nibL.getD (U % 16) 0 := by rw [← nibble, hU, ← stepsN_add]; rfl
          have hI0 : U % 16 < 16 := Nat.mod_lt _ (by omega)
          have e3 := and32_15 U hW0
          have hcN := HN (U % 16) hI0
          have hG0 := nib_lt ⟨U % 16, hI0⟩
          simp only at hG0
          obtain ⟨I, hI⟩ : ∃ I, I = U % 16 := ⟨_, rfl⟩
          rw [← hI] at hI0 e3 hcN hG0 hn4
          obtain ⟨G, hG⟩ : ∃ G, G = nibL.getD I 0 := ⟨_, rfl⟩
          rw [← hG] at hcN hG0 hn4
          have HN4 := Lib.hid hn4
          have e4 : bits .xor .u32 ((U : Int) / 16) (G : Int) = ((U / 16 ^^^ G : Nat) : Int) := by
            have := xor32 (U / 16) G (by omega) hG0
            rw [← this]; simp
          have HNN := Lib.hid HN
          have i0 : (0 : Int) ≤ (I : Int) := by omega
          have i1 : (I : Int) < 16 := by omega
          clear hI hG hn4 hU HN
          go_wp2
          go_roundw
          case rel => exact ⟨k + 1, hd2, by rw [HN4.out], by go_num, trivial⟩
          case measure => simp [intOf]; omega
        · obtain rfl : k = 2 := by omega
          go_wp2
          go_roundw
          case rel => exact ⟨j + 1, hd, by rw [HT.out, moreN_snoc, ← HV.out], by go_num, trivial⟩
          case measure => simp [intOf]; omega
    · obtain rfl : j = l.length := by omega
      rw [List.take_length]
      have hV0 := moreN_lt (4294967295 - s) l (by omega) hb
      have HX := Lib.hid (xor32_max _ hV0)
      clear hc
      go_wp2
      go_ret
      exact ⟨by rw [HJ.out, ← HX.out]; rfl, rfl⟩
set_option maxHeartbeats 1000000 in
theorem crcOf_any (v : Value) (l : List Nat) (hl : l.length ≤ 1000000000) (w : World) (HB : Row8 w v l) (HN : Nibs w) :
    Calls Tryd.prog 59 #[v] w fun e w' => e = .returned (.int .u32 ((crcMore 0 l : Nat) : Int)) ∧ w = w' := by
  go_enter Tryd.func59, Tryd.ntmps59
  go_wp2_with (go_at_call 58; refine (more_any 0 v l (by omega) hl _ HB HN).mono ?_; rintro e w' ⟨rfl, rfl⟩)
  go_ret
  exact ⟨rfl, rfl⟩

end Go.Proofs.YtficodklidaheaaDoor
