/- Layer 18 is awake. -/
import Derived.Test.YtdhfalcjohfdkaaSB
import Derived.Test.YtdhfalcjohfdkaaSC
import Derived.Lib.SmallJoins
namespace Go.Proofs.Ytdhfalcjohfdkaa
open Go.RowKit
attribute [local go_sem ↓] Go.wp_at_zero Go.wp_at_succ

theorem run_make1 {P : Program} {t e : TypeId} {i : TypeInfo} {z : Value} (ht : P.underlying t = some (.slice e)) (hi : P.info? e = some i) (hz : i.zero = some z) (hs : i.size = 1) (hzc : z.cells = #[z]) (hb : i.bytes ≤ 64) (n : Nat) (hn : n ≤ 1000000) (w : World) :
    (Instr.makeSlice t (.int .i64 (n : Int)) (.int .i64 (n : Int))).run P w = .ok (.slice (some ⟨w.heap.size, 0, none⟩) n n) (w.alloc (.cells (Array.replicate n z) e)) := by
  have hbn : (i.bytes : Int) * (n : Int) ≤ 64 * 1000000 := by
    have : i.bytes * n ≤ 64 * 1000000 := Nat.mul_le_mul hb hn
    have h2 : ((i.bytes * n : Nat) : Int) ≤ 64 * 1000000 := by omega
    rwa [Int.natCast_mul] at h2
  have hr := run_makeSlice (P := P) w t e i z ht hi hz .i64 .i64 (n : Int) (n : Int) (by omega) (Int.le_refl _) (by rw [hs]; omega) (by omega) (by omega)
  rw [hr]
  simp only [Int.toNat_natCast]
  have e : madeCells z.cells (n * i.size) = Array.replicate n z := by
    rw [hs, Nat.mul_one, hzc]
    apply Array.toList_inj.1
    rw [toList_madeCells_one]; simp
  rw [e]
theorem slAt_fresh (w : World) (T : TypeId) (xs : List Value) (cs : Array Value) (fr : Nat × Nat) (n c : Nat) (hc : cs.toList = xs) (hn : xs.length = n) : SlAt (w.alloc (.cells cs T fr)) (.slice (some ⟨w.heap.size, 0, none⟩) n c) xs := by
  refine ⟨some ⟨w.heap.size, 0, none⟩, c, by rw [hn], fun e => (by cases e), fun a e j u hu => ?_⟩
  injection e with e
  subst e
  rw [addr_add0, cell_of_row _ _ j _ _ _ (heap_alloc_new w _), ← Array.getElem?_toList, hc]
  exact hu
def nmA : ByteArray := { data := #[97] }
def aw0 : DA := freshD 10 [(nmA, ⟨[], 0⟩)]
def aw1 : DA := { aw0 with L := [(nmA, ⟨[97, 98, 99], 0⟩)], calls := 1 }
def aw2 : DA := { aw1 with crashIn := 0 }
def aw3 : DA := { aw1 with down := true, calls := 2, crashIn := -1 }
def aw4 : DA := { aw1 with L := [(nmA, ⟨[97, 98], 2⟩)], calls := 2 }
theorem aw_new : newD [(nmA, [])] 10 = some aw0 := by kernel_rfl
theorem aw_app : appendD aw0 nmA [97, 98, 99] = (aw1, 0) := by kernel_rfl
theorem aw_crash : crashD aw1 0 = aw2 := by kernel_rfl
theorem aw_sync : syncD aw2 nmA = (aw3, 13) := by kernel_rfl
theorem aw_boot : bootD aw3 [2] = (aw4, 0) := by kernel_rfl
theorem aw_read : readA aw4 nmA = ([97, 98], 0) := by kernel_rfl
theorem aw_more : (appendD aw4 nmA [0, 0, 0, 0, 0, 0, 0, 0, 0]).2 = 12 := by kernel_rfl
theorem aw_str : strL [97, 98] = { data := #[97, 98] } := by kernel_rfl

set_option maxHeartbeats 4000000 in
set_option maxRecDepth 100000 in
theorem awake18_any (w : World) : Calls Try.prog 6 #[] w fun e w' => e = .returned (.bool true) ∧ Kept (fun _ => False) w w' := by
  obtain ⟨W, hW⟩ : ∃ W, W = w.alloc (.cells #[.string nmA, .slice none 0 0] 50) := ⟨_, rfl⟩
  have HW := Lib.hid hW
  have HK : Hid (Kept (fun _ => False) w W) := Lib.hid (by rw [hW]; exact (Kept.refl _ _).alloc _)
  have HG : Hid (GAt cellsA 2 W (some ⟨w.heap.size, 0, none⟩) [⟨nmA, none, 0, []⟩]) := Lib.hid (fun _ => ⟨w.heap.size, 0, rfl, fun i p hi j u hu => by
    cases i with
    | succ i => simp at hi
    | zero =>
      simp at hi
      subst hi
      rw [hW, cell_of_row _ _ _ _ _ _ (heap_alloc_new w _)]
      rw [← Array.getElem?_toList]
      rw [show 0 + 0 * 2 + j = j by omega]
      exact hu⟩)
  have HNEW := Lib.hid (dNew_any (some ⟨w.heap.size, 0, none⟩) 1 1 [⟨nmA, none, 0, []⟩] rfl 10 (by decide) W HG.out (fun f hf => by
    rcases List.mem_singleton.1 hf with rfl
    exact ⟨⟨none, 0, rfl, fun _ => rfl, fun a ha => by cases ha⟩, by simp, by unfold maxLen nmA; decide, Nat.le_refl _⟩))
  have e0 : List.map AF.t [⟨nmA, none, 0, []⟩] = [(nmA, [])] := rfl
  rw [e0, aw_new] at HNEW
  have HSZ : Hid (nmA.size ≤ maxLen) := Lib.hid (by unfold maxLen nmA; decide)
  clear e0 hW
  rw [show (Value.string nmA) = Value.string { data := #[97] } from rfl] at HW
  go_enter Try.func6, Try.ntmps6
  go_wp2_with fail
  rw [← HW.out]
  refine HNEW.out.mono ?_
  rintro e w1 ⟨_, h2⟩
  obtain ⟨db, mb, L, rfl, h1, k1⟩ := h2 _ rfl
  have HL := Lib.hid (show db < w1.heap.size from (h1.lt (.inl rfl)).1)
  obtain ⟨w2, hw2⟩ : ∃ w2, w2 = w1.alloc (.cells #[.int .u8 97, .int .u8 98, .int .u8 99] 5 (3, 4)) := ⟨_, rfl⟩
  have HW2 := Lib.hid hw2
  have HK2 : Hid (Kept (fun _ => False) w w2) := Lib.hid (HK.out.trans (by rw [hw2]; exact k1.alloc _))
  have HA := Lib.hid (dAppend_any W.heap.size db mb L aw0 nmA HSZ.out (some ⟨w1.heap.size, 0, none⟩) 3 3 [97, 98, 99] rfl (by decide) (by decide) w2 (h1.kept (S := fun _ => False) (by rw [hw2]; exact (Kept.refl _ _).alloc _) (fun _ _ x => x))
    (by rw [hw2]; exact slAt_fresh w1 _ _ _ _ 3 3 rfl rfl) (fun _ j e => by
      have e' : w1.heap.size = j := by injection e
      have := HL.out
      omega))
  rw [aw_app, show nmA = { data := #[97] } from rfl] at HA
  have HX := Lib.hid (h1.base.1)
  have HXF := Lib.hid (fun k hk => (h1.lt (k := k) hk).2)
  clear h2 h1 k1 hw2
  have hcv : (convert 39 39 (.slice (some ⟨w1.heap.size, 0, none⟩) 3 3)).run Try.prog (w1.alloc (.cells #[.int .u8 97, .int .u8 98, .int .u8 99] 5)) = .ok (.slice (some ⟨w1.heap.size, 0, none⟩) 3 3) (w1.alloc (.cells #[.int .u8 97, .int .u8 98, .int .u8 99] 5 (3, 4))) := Go.Joins.run_convert_bytes_const_at w1 39 5 _ _ _ _ (by simp) Try.underlying39 Try.underlying5
  go_wp2_with fail
  rw [← HW2.out]
  refine HA.out.mono ?_
  rintro e w3 ⟨L3, rfl, h3, k3, f3⟩
  have HS3 := Lib.hid (And.intro h3 f3)
  have HK3 : Hid (Kept (fun _ => False) w w3) := Lib.hid (HK2.out.newer k3 (fun j e => by
    have h5 := HXF.out j e
    have h6 := HK.out.size
    omega))
  have HCR := Lib.hid (dCrash_any W.heap.size db mb L3 aw1 0 (by unfold I64; omega) w3 h3)
  rw [aw_crash] at HCR
  clear h3 k3 f3 hcv
  go_wp2_with fail
  refine HCR.out.mono ?_
  rintro e w4 ⟨rfl, h4, k4⟩
  have HK4 : Hid (Kept (fun _ => False) w w4) := Lib.hid (HK3.out.newer k4 (fun j e => by have := HX.out; have h6 := HK.out.size; omega))
  have HSY := Lib.hid (dSync_any W.heap.size db mb L3 aw2 nmA HSZ.out w4 h4)
  rw [aw_sync, show nmA = { data := #[97] } from rfl] at HSY
  have HXF4 := Lib.hid (fun k hk => (h4.lt (k := k) hk).2)
  clear h4 k4
  go_wp2_with fail
  refine HSY.out.mono ?_
  rintro e w5 ⟨L5, rfl, h5, k5, f5⟩
  have HK5 : Hid (Kept (fun _ => False) w w5) := Lib.hid (HK4.out.newer k5 (fun j e => by
    have h5 := HXF4.out j e
    have h6 := HK.out.size
    omega))
  have HDN := Lib.hid (dDown_any W.heap.size db mb L5 aw3 w5 h5)
  rw [show aw3.down = true from rfl] at HDN
  obtain ⟨w6, hw6⟩ : ∃ w6, w6 = w5.alloc (.cells #[.int .i64 2] 3) := ⟨_, rfl⟩
  have HW6 := Lib.hid hw6
  have k56 : Kept (fun _ => False) w5 w6 := by rw [hw6]; exact (Kept.refl _ _).alloc _
  have h6 := h5.kept k56 (fun _ _ x => x)
  have HBT := Lib.hid (dBoot_any W.heap.size db mb L5 aw3 (some ⟨w5.heap.size, 0, none⟩) 1 1 [2] rfl w6 h6 (by rw [hw6]; exact slAt_fresh w5 _ _ _ _ 1 1 rfl rfl) (fun _ j e x => by
    have e' : w5.heap.size = j := by injection e
    have := (h5.lt x).1
    omega))
  rw [aw_boot] at HBT
  have HXF6 := Lib.hid (fun k hk => (h6.lt (k := k) hk).2)
  have HK6 := Lib.hid (HK5.out.trans k56)
  clear h5 k5 f5 hw6 k56 h6
  go_wp2_with fail
  refine HDN.out.mono ?_
  rintro e w5' ⟨rfl, rfl⟩
  go_wp2_with fail
  rw [← HW6.out]
  refine HBT.out.mono ?_
  rintro e w7 ⟨L7, rfl, h7, k7, f7⟩
  have HK7 : Hid (Kept (fun _ => False) w w7) := Lib.hid (HK6.out.newer k7 (fun j e => by
    have h5 := HXF6.out j e
    have h6 := HK.out.size
    omega))
  have HRD := Lib.hid (dRead_any W.heap.size db mb L7 aw4 nmA HSZ.out w7 h7)
  rw [aw_read, show nmA = { data := #[97] } from rfl] at HRD
  have HD7 := Lib.hid h7
  clear h7 k7 f7
  go_wp2_with fail
  refine HRD.out.mono ?_
  rintro e w8 ⟨a8, c8, rfl, m8⟩
  have hcv : (convert 39 9 (.slice a8 2 c8)).run Try.prog w8 = .ok (.string (strL [97, 98])) w8 := run_strL (l := [97, 98]) m8.at_ 39 5 9 Try.underlying39 Try.underlying5 Try.underlying9
  rw [aw_str] at hcv
  have h8 := HD7.out.kept m8.kept (fun _ _ x => x)
  obtain ⟨w9, hw9⟩ : ∃ w9, w9 = w8.alloc (.cells (Array.replicate 9 (.int .u8 0)) 5) := ⟨_, rfl⟩
  have HW9 := Lib.hid hw9
  have k89 : Kept (fun _ => False) w8 w9 := by rw [hw9]; exact (Kept.refl _ _).alloc _
  have h9 := h8.kept k89 (fun _ _ x => x)
  have HA9 := Lib.hid (dAppend_any W.heap.size db mb L7 aw4 nmA HSZ.out (some ⟨w8.heap.size, 0, none⟩) 9 9 [0, 0, 0, 0, 0, 0, 0, 0, 0] rfl (by decide) (by decide) w9 h9 (by rw [hw9]; exact slAt_fresh w8 _ _ _ _ 9 9 rfl rfl) (fun _ j e => by
    have e' : w8.heap.size = j := by injection e
    have := (h8.lt (.inl rfl)).1
    omega))
  unfold DTo at HA9
  rw [aw_more, show nmA = { data := #[97] } from rfl] at HA9
  have HXF9 := Lib.hid (fun k hk => (h9.lt (k := k) hk).2)
  have HK9 := Lib.hid ((HK7.out.trans m8.kept).trans k89)
  clear m8 h8 hw9 k89 h9
  have hmk : (Instr.makeSlice 39 (.int .i64 9) (.int .i64 9)).run Try.prog w8 = .ok (.slice (some ⟨w8.heap.size, 0, none⟩) 9 9) (w8.alloc (.cells (Array.replicate 9 (.int .u8 0)) 5)) := by
    obtain ⟨iU, hiU, eU⟩ := Option.map_eq_some_iff.1 Try.infoU8
    obtain ⟨hz0, hz1, hz2⟩ : iU.zero = some (.int .u8 0) ∧ iU.size = 1 ∧ iU.bytes = 1 := by
      injection eU with e1 e2
      injection e2 with e2 e3
      exact ⟨e1, e2, e3⟩
    exact run_make1 (P := Try.prog) Try.underlying39 hiU hz0 hz1 rfl (by omega) 9 (by omega) w8
  go_wp2_with fail
  rw [← HW9.out]
  refine HA9.out.mono ?_
  rintro e w10 ⟨L10, rfl, h10, k10, f10⟩
  have HK10 : Hid (Kept (fun _ => False) w w10) := Lib.hid (HK9.out.newer k10 (fun j e => by
    have h5 := HXF9.out j e
    have h6 := HK.out.size
    omega))
  clear h10 k10 f10 hcv hmk
  go_wp2
  go_ret
  exact ⟨rfl, HK10.out⟩
end Go.Proofs.Ytdhfalcjohfdkaa
