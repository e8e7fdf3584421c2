/- package glob, layer 32: next. -/
import Derived.Test.YtjbjfdmdicfjfaaD8
namespace Go.Proofs.Ytjbjfdmdicfjfaa
open Go.RowKit
attribute [local go_sem ↓] Go.wp_at_zero Go.wp_at_succ

theorem okPc (k c : Nat) (hk : k ≤ 3) (hc : c < 256) : PcR.Ok ⟨⟨k, c, noF⟩, 0, 0, 0, 0⟩ := ⟨Wd.zero, hk, hc⟩
set_option maxHeartbeats 4000000 in
theorem next_any (s : ByteArray) (w : World) (h0 : 0 < s.size) (hs : s.size ≤ 1000000) :
    Calls Try.prog 15 #[.string s] w fun e w' => NxTo (nextL (bl s)) e ∧ Kept (fun _ => False) w w' := by
  have HNS := Lib.hid (fun w => nextSet_any s w h0 hs)
  have HBO := Lib.hid (fun w => byteOf_any s w h0 (by omega))
  have hNL := nextL.eq_def (bl s)
  rw [bl_getD] at hNL
  have hS0 : ∀ w, (Instr.index 9 (.string s) (.int .i64 0)).run Try.prog w = .ok (.int .u8 (chr s 0 : Int)) w := fun w => run_chr Try.underlying9 s 0 h0 w
  obtain ⟨c0, hc0⟩ : ∃ c, c = chr s 0 := ⟨_, rfl⟩
  rw [← hc0] at hNL hS0
  clear hc0
  obtain ⟨w1, hw1⟩ : ∃ w1, w1 = w.alloc (.cells (cellsPc zeroPc).toArray 45) := ⟨_, rfl⟩
  have hb1 : w1.heap[w.heap.size]? = some (.cells (cellsPc zeroPc).toArray 45 (0, 0)) := by rw [hw1]; exact heap_alloc_new w _
  have hk1 : Kept (fun _ => False) w w1 := by rw [hw1]; exact (Kept.refl _ _).alloc _
  have hz1 : w.heap.size < w1.heap.size := by rw [hw1]; simp
  have HB1 := Lib.hid hb1
  have HK1 := Lib.hid hk1
  have HZ1 := Lib.hid hz1
  have HW1 : Hid (w.alloc (.cells #[.int .i64 0, .int .u8 0, .int .u64 0, .int .u64 0, .int .u64 0, .int .u64 0] 45) = w1) := Lib.hid hw1.symm
  obtain ⟨rb, hrb⟩ : ∃ rb, rb = w.heap.size := ⟨_, rfl⟩
  have HRB := Lib.hid hrb
  clear hw1 hb1 hk1 hz1
  by_cases h42 : c0 = 42
  · subst h42
    have HX : Hid (nextL (bl s) = .good ⟨3, 0, noF⟩ 1) := Lib.hid hNL
    clear hNL hs h0
    go_enter Try.func15, Try.ntmps15
    go_upto_region 1 with fail
    rw [HW1.out, ← hrb]
    rw [← hrb] at HB1 HZ1
    clear hrb
    go_wp2_with (refine wpList_store_row rfl 45 (.tmp 2) _ rfl rb (cellsPc ⟨⟨3, 0, noF⟩, 0, 0, 0, 0⟩).toArray rfl rfl 45 (cellsPc zeroPc).toArray HB1.out (piece_info _) rfl (piece_all _) ?_)
    refine bodyPost_ret (results_ctt Try.results15 _ _ rb 45 _ (0, 0) _ rfl (setRow_heap _ _ _ _ _ _ HB1.out) Try.underlying45 rfl (piece_info _)) rfl ?_
    exact ⟨⟨⟨⟨3, 0, noF⟩, 0, 0, 0, 0⟩, 1, 0, rfl, by rw [HX.out]; exact ⟨okPc 3 0 (by omega) (by omega), rfl, rfl, rfl⟩⟩, kept_row HK1.out (by have := HRB.out; omega)⟩
  have q42 : ((c0 : Int) == 42) = false := by simp; omega
  have q42' : (c0 == 42) = false := by simp [h42]
  rw [if_neg h42] at hNL
  by_cases h63 : c0 = 63
  · subst h63
    have HX : Hid (nextL (bl s) = .good ⟨1, 0, noF⟩ 1) := Lib.hid hNL
    clear hNL hs h0 h42
    go_enter Try.func15, Try.ntmps15
    go_upto_region 1 with fail
    rw [HW1.out, ← hrb]
    rw [← hrb] at HB1 HZ1
    clear hrb
    go_wp2_with (refine wpList_store_row rfl 45 (.tmp 2) _ rfl rb (cellsPc ⟨⟨1, 0, noF⟩, 0, 0, 0, 0⟩).toArray rfl rfl 45 (cellsPc zeroPc).toArray HB1.out (piece_info _) rfl (piece_all _) ?_)
    refine bodyPost_ret (results_ctt Try.results15 _ _ rb 45 _ (0, 0) _ rfl (setRow_heap _ _ _ _ _ _ HB1.out) Try.underlying45 rfl (piece_info _)) rfl ?_
    exact ⟨⟨⟨⟨1, 0, noF⟩, 0, 0, 0, 0⟩, 1, 0, rfl, by rw [HX.out]; exact ⟨okPc 1 0 (by omega) (by omega), rfl, rfl, rfl⟩⟩, kept_row HK1.out (by have := HRB.out; omega)⟩
  have q63 : ((c0 : Int) == 63) = false := by simp; omega
  have q63' : (c0 == 63) = false := by simp [h63]
  rw [if_neg h63] at hNL
  by_cases h91 : c0 = 91
  · subst h91
    rw [if_pos rfl] at hNL
    have HX := Lib.hid hNL
    clear hNL hs h0 h42 h63 q63 q42 q63' q42'
    go_enter Try.func15, Try.ntmps15
    go_upto_region 1 with fail
    rw [HW1.out, ← hrb]
    rw [← hrb] at HB1 HZ1
    clear hrb
    go_wp2_with fail
    refine (HNS.out w1).mono ?_
    rintro e w2 ⟨⟨P, x, y, rfl, hP⟩, hk2⟩
    have HB2 := Lib.hid (hk2.same HB1.out (fun x => x))
    have HK2 := Lib.hid (HK1.out.trans hk2)
    have HP := Lib.hid hP
    clear hk2 hP
    go_wp2_with (refine wpList_store_row rfl 45 (.tmp 2) _ rfl rb (cellsPc P).toArray rfl rfl 45 (cellsPc zeroPc).toArray HB2.out (piece_info _) rfl (piece_all _) ?_)
    refine bodyPost_ret (results_ctt Try.results15 _ _ rb 45 _ (0, 0) _ rfl (setRow_heap _ _ _ _ _ _ HB2.out) Try.underlying45 rfl (piece_info P)) rfl ?_
    exact ⟨⟨P, x, y, rfl, by rw [HX.out]; exact HP.out⟩, kept_row HK2.out (by have := HRB.out; omega)⟩
  have q91 : ((c0 : Int) == 91) = false := by simp; omega
  have q91' : (c0 == 91) = false := by simp [h91]
  rw [if_neg h91, bl_length] at hNL
  have hpos := byteL_pos (bl s)
  have hblt := byteL_lt (l := bl s) (fun x hx => bl_lt hx)
  obtain ⟨ck, hck⟩ : ∃ p, p = byteL (bl s) := ⟨_, rfl⟩
  rw [← hck] at hNL HBO hpos hblt
  obtain ⟨c, k⟩ := ck
  simp only at hNL HBO hpos hblt
  clear hck
  by_cases hlt : s.size < k
  · rw [if_pos hlt] at hNL
    have HX := Lib.hid hNL
    have q1 : (s.size : Int) < (k : Int) := by omega
    have q1' : decide (s.size < k) = true := decide_eq_true hlt
    clear hNL hs h0 h42 h63 h91 hlt hpos
    go_enter Try.func15, Try.ntmps15
    go_upto_region 1 with fail
    rw [HW1.out, ← hrb]
    rw [← hrb] at HB1 HZ1
    clear hrb
    go_wp2_with fail
    refine (HBO.out w1).mono ?_
    rintro e w2 ⟨rfl, rfl⟩
    go_wp2_with (refine wpList_store_row rfl 45 (.tmp 2) _ rfl rb (cellsPc zeroPc).toArray rfl rfl 45 (cellsPc zeroPc).toArray HB1.out (piece_info _) rfl (piece_all _) ?_)
    refine bodyPost_ret (results_ctt Try.results15 _ _ rb 45 _ (0, 0) _ rfl (setRow_heap _ _ _ _ _ _ HB1.out) Try.underlying45 rfl (piece_info zeroPc)) rfl ?_
    exact ⟨⟨zeroPc, 0, 2, rfl, by rw [HX.out]; exact ⟨rfl, rfl⟩⟩, kept_row HK1.out (by have := HRB.out; omega)⟩
  · rw [if_neg hlt] at hNL
    have HX := Lib.hid hNL
    have q1 : ¬ (s.size : Int) < (k : Int) := by omega
    have q1' : decide (s.size < k) = false := decide_eq_false hlt
    have HOK := Lib.hid (okPc 0 c (by omega) hblt)
    clear hNL hs h0 h42 h63 h91 hlt hpos hblt
    go_enter Try.func15, Try.ntmps15
    go_upto_region 1 with fail
    rw [HW1.out, ← hrb]
    rw [← hrb] at HB1 HZ1
    clear hrb
    go_wp2_with fail
    refine (HBO.out w1).mono ?_
    rintro e w2 ⟨rfl, rfl⟩
    go_wp2_with (refine wpList_store_row rfl 45 (.tmp 2) _ rfl rb (cellsPc ⟨⟨0, c, noF⟩, 0, 0, 0, 0⟩).toArray rfl rfl 45 (cellsPc zeroPc).toArray HB1.out (piece_info _) rfl (piece_all _) ?_)
    refine bodyPost_ret (results_ctt Try.results15 _ _ rb 45 _ (0, 0) _ rfl (setRow_heap _ _ _ _ _ _ HB1.out) Try.underlying45 rfl (piece_info _)) rfl ?_
    exact ⟨⟨⟨⟨0, c, noF⟩, 0, 0, 0, 0⟩, k, 0, rfl, by rw [HX.out]; exact ⟨HOK.out, rfl, rfl, rfl⟩⟩, kept_row HK1.out (by have := HRB.out; omega)⟩
end Go.Proofs.Ytjbjfdmdicfjfaa
