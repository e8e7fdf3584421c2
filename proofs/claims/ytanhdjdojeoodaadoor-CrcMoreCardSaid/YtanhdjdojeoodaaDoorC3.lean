/- package crc, layer 3: contracts. -/
import Derived.Test.YtanhdjdojeoodaaDoorRows
import Derived.Test.YtanhdjdojeoodaaDoorC2
import Derived.Lib.Hide
import Derived.Deep.WholeRow
import Derived.Deep.DrawnRows
import Derived.Test.YtanhdjdojeoodaaDoorL3
import Derived.Outline
namespace Go.Proofs.YtanhdjdojeoodaaDoor
open Go.RowKit
attribute [local go_sem ↓] Go.wp_at_zero Go.wp_at_succ

def u32s (l : List Nat) : List Value := l.map fun (n : Nat) => Value.int .u32 (n : Int)
theorem u32s_length (l : List Nat) : (u32s l).length = l.length := by simp [u32s]
theorem u32s_at (l : List Nat) (i : Nat) (h : i < l.length) : (u32s l)[i]? = some (.int .u32 ((l.getD i 0 : Nat) : Int)) := by
  simp [u32s, List.getElem?_map, List.getElem?_eq_getElem h, List.getD_eq_getElem?_getD]
theorem u32s_one (l : List Nat) : ∀ u ∈ u32s l, u.oneCell' = true := by
  intro u hu; obtain ⟨x, _, rfl⟩ := List.mem_map.1 hu; rfl
theorem u32s_all (l : List Nat) : (u32s l).toArray.all (·.oneCell') = true := by
  rw [Array.all_eq_true_iff_forall_mem]
  intro v hv
  exact u32s_one l v (by simpa using hv)

theorem xor32 (a b : Nat) (ha : a < 4294967296) (hb : b < 4294967296) : bits .xor .u32 (a : Int) (b : Int) = ((a ^^^ b : Nat) : Int) := u32_xor_nat a b (by omega) (by omega)
theorem and32_1 (a : Nat) (ha : a < 4294967296) : bits .and .u32 (a : Int) 1 = ((a % 2 : Nat) : Int) := by
  have h := u32_and_nat a 1 (by omega) (by omega)
  rw [Nat.and_two_pow_sub_one_eq_mod a 1] at h
  exact h
theorem and32_15 (a : Nat) (ha : a < 4294967296) : bits .and .u32 (a : Int) 15 = ((a % 16 : Nat) : Int) := by
  have h := u32_and_nat a 15 (by omega) (by omega)
  rw [Nat.and_two_pow_sub_one_eq_mod a 4] at h
  exact h
theorem and32_bit (a j : Nat) (ha : a < 4294967296) : bits .and .u32 ((a : Int) / 2 ^ j) 1 = ((a / 2 ^ j % 2 : Nat) : Int) := by
  have e : (a : Int) / 2 ^ j = ((a / 2 ^ j : Nat) : Int) := by simp
  rw [e]
  exact and32_1 _ (Nat.lt_of_le_of_lt (Nat.div_le_self _ _) ha)

set_option maxHeartbeats 1000000 in
theorem of_any (tab : List Nat) (v : Nat) (ht : tab.length = 32) (hlt : ∀ x ∈ tab, x < 4294967296) (hv : v < 4294967296) (w : World) :
    Calls Tryd.prog 16 #[.agg (u32s tab).toArray, .int .u32 v] w fun e w' => e = .returned (.int .u32 (ofK tab v 32)) ∧ Kept (fun _ => False) w w' := by
  go_enter Tryd.func16, Tryd.ntmps16
  go_wp2
  obtain ⟨w1, HW1⟩ : ∃ w1, w1 = w.alloc (.cells (u32s tab).toArray 37) := ⟨_, rfl⟩
  have hkept : Kept (fun _ => False) w w1 := by rw [HW1]; exact (Kept.refl _ _).alloc _
  have hcell : ∀ i, i < 32 → w1.cell? ⟨w.heap.size, i, none⟩ = some (.int .u32 ((tab.getD i 0 : Nat) : Int)) := by
    intro i hi
    rw [HW1, cell_of_row _ _ i _ _ _ (heap_alloc_new w _)]
    simpa using u32s_at tab i (by omega)
  rw [← HW1]
  clear HW1
  go_loopw [5, 7] (fun o t wr => ∃ j : Nat, j ≤ 32 ∧ t = .int .i64 j ∧ o = .int .u32 ((ofK tab v j : Nat) : Int) ∧ w1 = wr) (fun _ t _ => 32 - (intOf t).toNat)
  case atStart => exact ⟨0, by omega, rfl, rfl, rfl⟩
  case round =>
    obtain ⟨j, hj, rfl, rfl, rfl⟩ := hrel
    by_cases hd : j < 32
    · have hc := hcell j hd
      have hd' : (j : Int) < 32 := by omega
      have hj0 : (0 : Int) ≤ (j : Int) := by omega
      clear hcell
      have HB := Lib.hid (and32_bit v j hv)
      have hT0 : tab.getD j 0 < 4294967296 := by
        apply hlt
        rw [List.getD_eq_getElem?_getD, List.getElem?_eq_getElem (by omega)]; simp
      have HS : Hid (ofK tab v (j + 1) = if v / 2 ^ j % 2 = 1 then ofK tab v j ^^^ tab.getD j 0 else ofK tab v j) := Lib.hid rfl
      obtain ⟨T, hT⟩ : ∃ T, T = tab.getD j 0 := ⟨_, rfl⟩
      rw [← hT] at hc hT0 HS
      clear hT
      have HX := Lib.hid (xor32 (ofK tab v j) T (ofK_lt tab v j hlt (by omega)) hT0)
      go_wp2
      all_goals
        rename_i hbit
        rw [HB.out] at hbit
        go_roundw
        case rel =>
          refine ⟨j + 1, hd, by go_num, ?_, trivial⟩
          rw [HS.out]
          first
            | rw [if_pos (by have := beq_iff_eq.1 hbit; omega), HX.out]
            | rw [if_neg (by have := beq_eq_false_iff_ne.1 hbit; omega)]
        case measure => simp [intOf]; omega
    · obtain rfl : j = 32 := by omega
      go_wp2
      go_ret
      exact ⟨rfl, hkept⟩
end Go.Proofs.YtanhdjdojeoodaaDoor
