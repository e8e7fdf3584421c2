/- package crc, layer 3: ofByte. -/
import Derived.Test.YtanhdjdojeoodaaDoorC4
namespace Go.Proofs.YtanhdjdojeoodaaDoor
open Go.RowKit
attribute [local go_sem ↓] Go.wp_at_zero Go.wp_at_succ

/-- What ofByte has made. -/
structure Ob (w wr : World) (tab : List Nat) : Prop where
  len : tab.length = 32
  kept : Kept (fun _ => False) w wr
  size : wr.heap.size ≥ w.heap.size + 2
  res : ∃ l, l.length = 32 ∧ wr.heap[w.heap.size]? = some (arr l)
  var : wr.heap[w.heap.size + 1]? = some (arr tab)
namespace Ob
theorem step {tab : List Nat} {w wr w3 : World} (h : Ob w wr tab) (hk : Kept (fun _ => False) wr w3) : Ob w w3 tab := by
  refine ⟨h.len, h.kept.trans hk, Nat.le_trans h.size hk.size, ?_, hk.same h.var fun x => x⟩
  obtain ⟨l, hl, h1⟩ := h.res
  exact ⟨l, hl, hk.same h1 fun x => x⟩
theorem stored {tab : List Nat} {w wr : World} (h : Ob w wr tab) (k x : Nat) : Ob w (wr.setCell ⟨w.heap.size + 1, k, none⟩ (.int .u32 (x : Int))) (tab.set k x) := by
  refine ⟨by simpa using h.len, h.kept.setCell (fun x => by simp only at x; omega) _, by simpa using h.size, ?_, arr_set h.var _⟩
  obtain ⟨l, hl, h1⟩ := h.res
  exact ⟨l, hl, by rw [heap_setCell_other _ _ _ _ (by show w.heap.size ≠ w.heap.size + 1; omega)]; exact h1⟩
theorem whole {tab tab' : List Nat} {w wr : World} (h : Ob w wr tab) (hl' : tab'.length = 32) : Ob w (wr.setRow (w.heap.size + 1) (u32s tab').toArray) tab' := by
  refine ⟨hl', kept_setRow h.kept (by omega) _, by simpa using h.size, ?_, setRow_heap _ _ _ _ _ _ h.var⟩
  obtain ⟨l, hl, h1⟩ := h.res
  exact ⟨l, hl, by rw [setRow_other _ _ _ _ (by omega)]; exact h1⟩
end Ob

theorem oneK_none : oneK 0 = 2197175160 :: List.replicate 31 0 := rfl
set_option maxHeartbeats 1000000 in
theorem ofByte_any (w : World) :
    Calls Tryd.prog 15 #[] w fun e w' => ∃ tab, StepTab tab 8 ∧ e = .returned (.agg (u32s tab).toArray) ∧ Kept (fun _ => False) w w' := by
  go_enter Tryd.func15, Tryd.ntmps15
  go_wp2_with (refine wpList_store_row rfl 37 (.tmp 1) _ rfl (w.heap.size + 1) (u32s (oneK 0)).toArray rfl rfl 37 (u32s (twK [] 0)).toArray ?_ (size_ok _ (oneK_length _)) rfl (u32s_all _) ?_)
  · have hs : w.heap.size + 1 = (w.alloc (arr (twK [] 0))).heap.size := by simp
    rw [hs]
    exact heap_alloc_last (w.alloc (arr (twK [] 0))) (arr (twK [] 0))
  go_loopw [4] (fun t wr => ∃ j : Nat, j ≤ 31 ∧ t = .int .i64 j ∧ Ob w wr (oneK j)) (fun t _ => 31 - (intOf t).toNat)
  case atStart =>
    refine ⟨0, by omega, rfl, ?_⟩
    have hs : w.heap.size + 1 = (w.alloc (arr (twK [] 0))).heap.size := by simp
    have h0 : Ob w ((w.alloc (arr (twK [] 0))).alloc (arr (twK [] 0))) (twK [] 0) := by
      refine ⟨twK_length _ _, ((Kept.refl _ _).alloc _).alloc _, by simp, ⟨twK [] 0, twK_length _ _, ?_⟩, ?_⟩
      · rw [heap_alloc_old _ _ (by simp)]; exact heap_alloc_last _ _
      · rw [hs]; exact heap_alloc_last _ _
    exact h0.whole (oneK_length _)
  case round =>
    obtain ⟨j, hj, rfl, HW⟩ := hrel
    by_cases hd : j < 31
    · have hd' : (j : Int) < 31 := by omega
      have hj0 : (0 : Int) ≤ (j : Int) := by omega
      have e1 : IntKind.i64.wrap ((j : Int) + 1) = (j : Int) + 1 := IntWalk.i64_in _ ⟨by omega, by omega⟩
      have hc := arr_cell (j := j + 1) HW.var (by rw [oneK_length]; omega)
      have hf := arr_free (j := j + 1) HW.var
      have hst := Lib.hid (HW.stored (j + 1) (2 ^ j))
      have hpw : (((2 ^ j : Nat) : Int)) = (2 : Int) ^ j % 4294967296 := by
        have : 2 ^ j ≤ 2 ^ 30 := Nat.pow_le_pow_right (by omega) (by omega)
        have h2 : ((2 ^ j : Nat) : Int) = (2 : Int) ^ j := by simp
        rw [← h2]
        obtain ⟨x, hx⟩ : ∃ x, x = 2 ^ j := ⟨_, rfl⟩
        rw [← hx] at this ⊢
        omega
      have HP := Lib.hid hpw
      clear hpw
      clear HW
      go_wp2
      go_roundw
      case rel => exact ⟨j + 1, hd, by go_num, by rw [← oneK_set _ hd, ← HP.out]; exact hst.out⟩
      case measure => simp [intOf]; omega
    · obtain rfl : j = 31 := by omega
      have hst := Lib.hid HW
      clear HW
      go_wp2
      go_loopw [13] (fun t wr => ∃ k : Nat, k ≤ 3 ∧ t = .int .i64 k ∧ ∃ tab, StepTab tab (2 ^ k) ∧ Ob w wr tab) (fun t _ => 3 - (intOf t).toNat)
      case atStart => exact ⟨0, by omega, rfl, oneK 31, oneK_tab, hst.out⟩
      case round =>
        obtain ⟨k, hk, rfl, tab, ht, HW⟩ := hrel
        by_cases hd : k < 3
        · have hd' : (k : Int) < 3 := by omega
          have hk0 : (0 : Int) ≤ (k : Int) := by omega
          have HS := Lib.hid HW
          have hvar := Lib.hid HW.var
          have HL := Lib.hid (size_ok _ HW.len)
          have HT := Lib.hid (size_ok _ (twK_length tab 32))
          have htl := HW.len
          have hlt := ht.lt
          have hls : (u32s tab).toArray.size = (u32s (twK tab 32)).toArray.size := by simp [u32s_length, htl, twK_length]
          have HLS := Lib.hid hls
          have HTB := Lib.hid ht
          clear HW hls ht
          go_wp2_with (first
            | (refine wpList_load_row rfl 37 (.tmp 1) rfl (w.heap.size + 1) rfl 37 (u32s tab).toArray (0, 0) _ hvar.out Tryd.underlying37 rfl HL.out ?_)
            | (go_at_call 17; refine (twice_any tab htl hlt _).mono ?_; rintro e w3 ⟨rfl, hk3⟩; have hv3 := Lib.hid (HS.out.step hk3))
            | (refine wpList_store_row rfl 37 (.tmp 1) _ rfl (w.heap.size + 1) (u32s (twK tab 32)).toArray rfl rfl 37 (u32s tab).toArray hv3.out.var HT.out HLS.out (u32s_all _) ?_))
          go_roundw
          case rel =>
            refine ⟨_, _, _, _, _, ⟨k + 1, hd, ?_, twK tab 32, ?_, hv3.out.whole (twK_length _ _)⟩, rfl⟩
            · go_num
            have := HTB.out.twice
            rw [Nat.pow_succ, Nat.mul_comm]; exact this
          case measure => simp [intOf]; omega
        · obtain rfl : k = 3 := by omega
          have hvar := Lib.hid HW.var
          have HL := Lib.hid (size_ok _ HW.len)
          have HK := Lib.hid HW.kept
          have HTB := Lib.hid ht
          have htl := HW.len
          obtain ⟨l0, hl0, hres⟩ := HW.res
          have HR := Lib.hid hres
          have hls : (u32s l0).toArray.size = (u32s tab).toArray.size := by simp [u32s_length, htl, hl0]
          have HLS := Lib.hid hls
          clear HW ht hres hls
          go_wp2_with (first
            | (refine wpList_load_row rfl 37 (.tmp 1) rfl (w.heap.size + 1) rfl 37 (u32s tab).toArray (0, 0) _ hvar.out Tryd.underlying37 rfl HL.out ?_)
            | (refine wpList_store_row rfl 37 (.tmp 0) _ rfl w.heap.size (u32s tab).toArray rfl rfl 37 (u32s l0).toArray HR.out HL.out HLS.out (u32s_all _) ?_))
          refine bodyPost_ret (v := .agg (u32s tab).toArray) ?_ rfl ⟨tab, HTB.out, rfl, ?_⟩
          · exact results_cell_row Tryd.results15 _ _ w.heap.size 37 _ (0, 0) _ rfl (setRow_heap _ _ _ _ _ _ HR.out) Tryd.underlying37 rfl HL.out
          · exact kept_setRow HK.out (by omega) _
end Go.Proofs.YtanhdjdojeoodaaDoor
