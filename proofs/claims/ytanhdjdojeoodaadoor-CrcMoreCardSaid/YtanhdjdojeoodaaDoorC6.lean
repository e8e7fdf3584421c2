/- package crc, layer 3: Join. -/
import Derived.Test.YtanhdjdojeoodaaDoorC5
namespace Go.Proofs.YtanhdjdojeoodaaDoor
open Go.RowKit
attribute [local go_sem ↓] Go.wp_at_zero Go.wp_at_succ

/-- Two sums, joined over n bytes. -/
def joinN (a b : Nat) (n : Int) : Nat := if n < 1 then a else stepsN (8 * n.toNat) a ^^^ b
/-- What Join has made. -/
structure Jn (w wr : World) (q : Nat) (tab : List Nat) : Prop where
  kept : Kept (fun _ => False) w wr
  up : w.heap.size ≤ q
  var : wr.heap[q]? = some (arr tab)
namespace Jn
theorem step {tab : List Nat} {w wr w3 : World} {q : Nat} (h : Jn w wr q tab) (hk : Kept (fun _ => False) wr w3) : Jn w w3 q tab := ⟨h.kept.trans hk, h.up, hk.same h.var fun x => x⟩
theorem whole {tab tab' : List Nat} {w wr : World} {q : Nat} (h : Jn w wr q tab) : Jn w (wr.setRow q (u32s tab').toArray) q tab' := ⟨kept_setRow h.kept h.up _, h.up, setRow_heap _ _ _ _ _ _ h.var⟩
end Jn
theorem and64_1 (m : Nat) (h : m < 9223372036854775808) : bits .and .i64 (m : Int) 1 = ((m % 2 : Nat) : Int) := by
  have e : bits .and .i64 (m : Int) 1 = IntKind.i64.wrap ((BitVec.ofInt 64 (m : Int) &&& BitVec.ofInt 64 1).toNat : Int) := rfl
  have h2 : (BitVec.ofInt 64 (m : Int) &&& BitVec.ofInt 64 1).toNat = m % 2 := by
    rw [BitVec.toNat_and, BitVec.toNat_ofInt, BitVec.toNat_ofInt]
    have a1 : ((m : Int) % (2 ^ 64 : Nat)).toNat = m := by omega
    have a2 : ((1 : Int) % (2 ^ 64 : Nat)).toNat = 1 := by decide
    rw [a1, a2]
    exact Nat.and_two_pow_sub_one_eq_mod m 1
  rw [e, h2]
  exact IntWalk.i64_in _ ⟨by omega, by omega⟩
theorem bit_less (N j : Nat) : N % 2 ^ (j + 1) = N % 2 ^ j + 2 ^ j * (N / 2 ^ j % 2) := by rw [Nat.pow_succ]; exact Nat.mod_mul
theorem half (N j : Nat) : N / 2 ^ j / 2 = N / 2 ^ (j + 1) := by rw [Nat.div_div_eq_div_mul, Nat.pow_succ]
theorem stepsN_bit (N j a : Nat) (h : N / 2 ^ j % 2 = 1) : stepsN (8 * 2 ^ j) (stepsN (8 * (N % 2 ^ j)) a) = stepsN (8 * (N % 2 ^ (j + 1))) a := by
  rw [← stepsN_add, bit_less, h]; congr 1; omega
theorem stepsN_nobit (N j a : Nat) (h : ¬ N / 2 ^ j % 2 = 1) : stepsN (8 * (N % 2 ^ j)) a = stepsN (8 * (N % 2 ^ (j + 1))) a := by
  rw [bit_less, show N / 2 ^ j % 2 = 0 by omega]; rfl

set_option maxHeartbeats 1000000 in
theorem join_any (a b : Nat) (n : Int) (ha : a < 4294967296) (hb : b < 4294967296) (h0 : -9223372036854775808 ≤ n) (h1 : n ≤ 9223372036854775807) (w : World) :
    Calls Tryd.prog 13 #[.int .u32 a, .int .u32 b, .int .i64 n] w fun e w' => e = .returned (.int .u32 ((joinN a b n : Nat) : Int)) ∧ Kept (fun _ => False) w w' := by
  by_cases hn : n < 1
  · have HJ : Hid (joinN a b n = a) := by show _ = _; unfold joinN; rw [if_pos hn]
    go_enter Tryd.func13, Tryd.ntmps13
    go_wp2
    go_ret
    exact ⟨by rw [HJ.out]; rfl, Kept.refl _ _⟩
  · obtain ⟨N, rfl⟩ : ∃ N : Nat, n = N := ⟨n.toNat, by omega⟩
    have HJ : Hid (joinN a b N = stepsN (8 * N) a ^^^ b) := by show _ = _; unfold joinN; rw [if_neg hn]; simp
    have HX := Lib.hid (xor32 (stepsN (8 * N) a) b (stepsN_lt _ _ ha) hb)
    go_enter Tryd.func13, Tryd.ntmps13
    go_wp2_with (first
      | (go_at_call 15; refine (ofByte_any _).mono ?_; rintro e w3 ⟨tab0, ht0, rfl, hk3⟩; have hz0 : (u32s (twK [] 0)).toArray.size = (u32s tab0).toArray.size := (by simp [u32s_length, twK_length, ht0.1]); have HZ0 := Lib.hid hz0; have HT0 := Lib.hid ht0; have HK3 := Lib.hid hk3; clear ht0 hk3 hz0)
      | (refine wpList_store_row rfl 37 (.tmp 7) _ rfl w3.heap.size (u32s tab0).toArray rfl rfl 37 (u32s (twK [] 0)).toArray (heap_alloc_last w3 (arr (twK [] 0))) (size_ok _ HT0.out.1) HZ0.out (u32s_all _) ?_))
    have HS := HK3.out.size
    have h00 : Jn w ((w3.alloc (arr (twK [] 0))).setRow w3.heap.size (u32s tab0).toArray) w3.heap.size tab0 :=
      (Jn.mk (tab := twK [] 0) (HK3.out.alloc _) HS (heap_alloc_last _ _)).whole
    have H00 := Lib.hid h00
    clear h00
    obtain ⟨q, hq⟩ : ∃ q, q = w3.heap.size := ⟨_, rfl⟩
    rw [← hq] at H00 ⊢
    clear hq HK3 HS
    simp only [Act.put]
    go_loopw [0, 2] (fun x t wr => ∃ j X M : Nat, ∃ tab : List Nat, x = .int .u32 X ∧ t = .int .i64 M ∧ X = stepsN (8 * (N % 2 ^ j)) a ∧ M = N / 2 ^ j ∧ StepTab tab (8 * 2 ^ j) ∧ Jn w wr q tab) (fun _ t _ => (intOf t).toNat)
    case atStart => exact ⟨0, a, N, tab0, rfl, rfl, by simp [Nat.mod_one, stepsN], by simp, HT0.out, H00.out⟩
    case round =>
      obtain ⟨j, X, M, tab, rfl, rfl, hX, hM, ht, HW⟩ := hrel
      have hX0 : X < 4294967296 := by rw [hX]; exact stepsN_lt _ _ ha
      have hM0 : M ≤ N := by rw [hM]; exact Nat.div_le_self _ _
      by_cases hd : 0 < M
      · have hd' : (0 : Int) < (M : Int) := by omega
        have e1 := and64_1 M (by omega)
        have hvar := Lib.hid HW.var
        have HL := Lib.hid (size_ok _ ht.1)
        have HT := Lib.hid (size_ok _ (twK_length tab 32))
        have htl := ht.1
        have hlt := ht.lt
        have hls : (u32s tab).toArray.size = (u32s (twK tab 32)).toArray.size := by simp [u32s_length, htl, twK_length]
        have HLS := Lib.hid hls
        have HTB := Lib.hid ht
        have HXX := Lib.hid hX
        have HMM := Lib.hid hM
        have HV := Lib.hid HW
        clear hX hM hls ht HW
        by_cases hb1 : M % 2 = 1
        · have e2 : bits .and .i64 (M : Int) 1 = 1 := by rw [e1, hb1]; rfl
          clear e1
          go_wp2_with (first
            | (refine wpList_load_row rfl 37 (.tmp 7) rfl q rfl 37 (u32s tab).toArray (0, 0) _ hvar.out Tryd.underlying37 rfl HL.out ?_)
            | (go_at_call 16; refine (of_any tab X htl hlt hX0 _).mono ?_; rintro e w4 ⟨rfl, hk4⟩; have hv4 := Lib.hid (HV.out.step hk4); have hvar := Lib.hid hv4.out.var)
            | (go_at_call 17; refine (twice_any tab htl hlt _).mono ?_; rintro e w5 ⟨rfl, hk5⟩; have hv5 := Lib.hid (hv4.out.step hk5))
            | (refine wpList_store_row rfl 37 (.tmp 7) _ rfl q (u32s (twK tab 32)).toArray rfl rfl 37 (u32s tab).toArray hv5.out.var HT.out HLS.out (u32s_all _) ?_))
          go_roundw
          case rel =>
            refine ⟨j + 1, ofK tab X 32, M / 2, twK tab 32, rfl, by go_num, ?_, ?_, ?_, hv5.out.whole⟩
            · rw [HTB.out.of hX0, HXX.out]; exact stepsN_bit N j a (by rw [← HMM.out]; exact hb1)
            · rw [HMM.out]; exact half N j
            · have := HTB.out.twice
              have e : 2 * (8 * 2 ^ j) = 8 * 2 ^ (j + 1) := by rw [Nat.pow_succ]; omega
              rw [e] at this; exact this
          case measure => simp [intOf]; omega
        · have e2 : bits .and .i64 (M : Int) 1 = 0 := by rw [e1, show M % 2 = 0 by omega]; rfl
          clear e1
          go_wp2_with (first
            | (refine wpList_load_row rfl 37 (.tmp 7) rfl q rfl 37 (u32s tab).toArray (0, 0) _ hvar.out Tryd.underlying37 rfl HL.out ?_)
            | (go_at_call 17; refine (twice_any tab htl hlt _).mono ?_; rintro e w5 ⟨rfl, hk5⟩; have hv5 := Lib.hid (HV.out.step hk5))
            | (refine wpList_store_row rfl 37 (.tmp 7) _ rfl q (u32s (twK tab 32)).toArray rfl rfl 37 (u32s tab).toArray hv5.out.var HT.out HLS.out (u32s_all _) ?_))
          go_roundw
          case rel =>
            refine ⟨j + 1, X, M / 2, twK tab 32, rfl, by go_num, ?_, ?_, ?_, hv5.out.whole⟩
            · rw [HXX.out]; exact stepsN_nobit N j a (by rw [← HMM.out]; exact hb1)
            · rw [HMM.out]; exact half N j
            · have := HTB.out.twice
              have e : 2 * (8 * 2 ^ j) = 8 * 2 ^ (j + 1) := by rw [Nat.pow_succ]; omega
              rw [e] at this; exact this
          case measure => simp [intOf]; omega
      · obtain rfl : M = 0 := by omega
        have hlt : N < 2 ^ j := by
          have := Nat.div_add_mod N (2 ^ j)
          rw [← hM] at this
          have := Nat.mod_lt N (Nat.two_pow_pos j)
          omega
        have hXe : X = stepsN (8 * N) a := by rw [hX, Nat.mod_eq_of_lt hlt]
        have HK := Lib.hid HW.kept
        rw [← hXe] at HX HJ
        clear hX hM ht HW hXe hlt
        go_wp2
        go_ret
        exact ⟨by rw [HJ.out, ← HX.out]; rfl, HK.out⟩
end Go.Proofs.YtanhdjdojeoodaaDoor
