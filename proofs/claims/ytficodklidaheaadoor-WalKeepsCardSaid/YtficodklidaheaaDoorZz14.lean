/- Texts put together: SFr, WG, F14. -/
import Derived.Test.YtficodklidaheaaDoorZz2
import Derived.Lib.SmallJoins
import Derived.Test.YtficodklidaheaaDoorZz11
import Derived.Test.YtficodklidaheaaDoorZz12
import Derived.Test.YtficodklidaheaaDoorZz13
import Derived.Test.YtficodklidaheaaDoorZz6
import Derived.Deep.RegionHeld3
/- Slices that were just made. -/
namespace Go.Proofs.YtficodklidaheaaDoor
open Go.RowKit

theorem run_make1 {P : Program} {t e : TypeId} {i : TypeInfo} {z : Value} (ht : P.underlying t = some (.slice e)) (hi : P.info? e = some i) (hz : i.zero = some z) (hs : i.size = 1) (hzc : z.cells = #[z]) (hb : i.bytes ≤ 64) (n : Nat) (hn : n ≤ 1000000) (w : World) :
    (Instr.makeSlice t (.int .i64 (n : Int)) (.int .i64 (n : Int))).run P w = .ok (.slice (some ⟨w.heap.size, 0, none⟩) n n) (w.alloc (.cells (Array.replicate n z) e)) := by
  have hbn : (i.bytes : Int) * (n : Int) ≤ 64 * 1000000 := by
    have : i.bytes * n ≤ 64 * 1000000 := Nat.mul_le_mul hb hn
    have h2 : ((i.bytes * n : Nat) : Int) ≤ 64 * 1000000 := by omega
    rwa [Int.natCast_mul] at h2
  have hr := run_makeSlice (P := P) w t e i z ht hi hz .i64 .i64 (n : Int) (n : Int) (by omega) (Int.le_refl _) (by rw [hs]; omega) (by omega) (by omega)
  rw [hr]
  simp only [Int.toNat_natCast]
  have e : madeCells z.cells (n * i.size) = Array.replicate n z := by
    rw [hs, Nat.mul_one, hzc]
    apply Array.toList_inj.1
    rw [toList_madeCells_one]; simp
  rw [e]
theorem slAt_fresh (w : World) (T : TypeId) (xs : List Value) (cs : Array Value) (fr : Nat × Nat) (n c : Nat) (hc : cs.toList = xs) (hn : xs.length = n) : SlAt (w.alloc (.cells cs T fr)) (.slice (some ⟨w.heap.size, 0, none⟩) n c) xs := by
  refine ⟨some ⟨w.heap.size, 0, none⟩, c, by rw [hn], fun e => (by cases e), fun a e j u hu => ?_⟩
  injection e with e
  subst e
  rw [addr_add0, cell_of_row _ _ j _ _ _ (heap_alloc_new w _), ← Array.getElem?_toList, hc]
  exact hu
end Go.Proofs.YtficodklidaheaaDoor
/- Layer 19 is awake. -/
namespace Go.Proofs.YtficodklidaheaaDoor
open Go.RowKit
attribute [local go_sem ↓] Go.wp_at_zero Go.wp_at_succ

def nmW : ByteArray := { data := #[119] }
def fA : List Nat := frameL [97]
def fB : List Nat := frameL [98]
def wv0 : DA := freshD 100 []
def wv1 : DA := { wv0 with L := [(nmW, ⟨[], 0⟩)], calls := 1 }
def wv2 : DA := { wv1 with L := [(nmW, ⟨fA, 0⟩)], calls := 2 }
def wv3 : DA := { wv1 with L := [(nmW, ⟨fA, 10⟩)], calls := 3 }
def wv4 : DA := { wv1 with L := [(nmW, ⟨fA ++ fB, 10⟩)], calls := 4 }
def wv5 : DA := { wv4 with crashIn := 0 }
def wv6 : DA := { wv4 with down := true, calls := 5 }
def wv7 : DA := { wv4 with L := [(nmW, ⟨fA ++ fB.take 5, 15⟩)], calls := 5 }
def wv8 : DA := { wv4 with L := [(nmW, ⟨fA, 10⟩)], calls := 6 }
theorem wv_new : newD [] 100 = some wv0 := by kernel_rfl
theorem wv_create : createD wv0 nmW = (wv1, 0) := by kernel_rfl
theorem wv_app : appendD wv1 nmW (frameL [97]) = (wv2, 0) := by kernel_rfl
theorem wv_sync : syncD wv2 nmW = (wv3, 0) := by kernel_rfl
theorem wv_app2 : appendD wv3 nmW (frameL [98]) = (wv4, 0) := by kernel_rfl
theorem wv_crash : crashD wv4 0 = wv5 := by kernel_rfl
theorem wv_sync2 : syncD wv5 nmW = (wv6, 13) := by kernel_rfl
theorem wv_boot : bootD wv6 [5] = (wv7, 0) := by kernel_rfl
theorem wv_cut : cutD wv7 nmW ((10 : Nat) : Int) = (wv8, 0) := by kernel_rfl
theorem wv_scan : ScanR (fA ++ fB.take 5) [[97]] 10 2 := by
  have h : firstE (fB.take 5) = 2 := by kernel_rfl
  have := ScanR.frame (l := [97]) (by simp) (ScanR.bad (fB.take 5) (by intro e; have := congrArg List.length e; simp [fB, frameL_len] at this) (by rw [h]; decide))
  rw [h] at this
  exact this
theorem wv_str : strN [97] = { data := #[97] } := by kernel_rfl
theorem wv_size : nmW.size ≤ maxLen := by unfold maxLen nmW; decide
theorem DK.keptNew {w wN w' : World} {db mb : Nat} {L : List (ByteArray × Fi)} {D : DA} (h : DK w.heap.size wN db mb L D) (hk : Kept (fun _ => False) w wN) (k : Kept (foot db mb L) wN w') : Kept (fun _ => False) w w' := hk.newer k (fun _ e => (h.lt e).2)
theorem nibs_pos {w : World} (h : Nibs w) : 0 < w.heap.size := by
  have := World.block_lt_of_cell? w _ (h 0 (by omega))
  exact this
theorem row8_fresh (w : World) (l : List Nat) (cs : Array Value) (fr : Nat × Nat) (n c : Nat) (hc : cs.toList = b8 l) (hn : l.length = n) (hb : ∀ x ∈ l, x < 256) : Row8 (w.alloc (.cells cs 5 fr)) (.slice (some ⟨w.heap.size, 0, none⟩) n c) l := by
  subst hn
  refine ⟨some ⟨w.heap.size, 0, none⟩, c, rfl, hb, fun j hj => ⟨_, rfl, ?_⟩⟩
  rw [addr_add0, cell_of_row _ _ j _ _ _ (heap_alloc_new w _), ← Array.getElem?_toList, hc]
  exact byV_get hj
set_option maxHeartbeats 8000000 in
set_option maxRecDepth 100000 in
theorem awake19_any (w : World) (HN : Nibs w) : Calls Tryd.prog 20 #[] w fun e w' => e = .returned (.bool true) ∧ Kept (fun _ => False) w w' := by
  have hb0 := nibs_pos HN
  have HNI := Lib.hid HN
  have HNEW := Lib.hid (dNew_any none 0 0 [] rfl 100 (by decide) w (fun h => absurd h (by simp)) (fun f hf => by cases hf))
  have e0 : List.map AF.t [] = [] := rfl
  rw [e0, wv_new] at HNEW
  have ews : Value.string nmW = Value.string { data := #[119] } := rfl
  clear e0 HN
  go_enter Tryd.func20, Tryd.ntmps20
  go_wp2_with fail
  refine HNEW.out.mono ?_
  rintro e w1 ⟨_, h2⟩
  obtain ⟨db, mb, L, rfl, h1, k1⟩ := h2 _ rfl
  have HOP := Lib.hid (wOpen_new w.heap.size db mb hb0 L wv0 nmW wv_size w1 h1 rfl rfl (HNI.out.kept k1))
  rw [wv_create, show nmW = { data := #[119] } from rfl] at HOP
  have H1 := Lib.hid (And.intro h1 k1)
  clear h2 h1 k1
  go_wp2_with fail
  refine HOP.out.mono ?_
  rintro e w2 (⟨_, L2, lb, v, B, H, rfl, h2, k2, f2, hlog, hB, hlb, hH, hg, _⟩ | ⟨h0, _⟩)
  case inr => exact absurd rfl h0
  obtain ⟨va, vc, hv, _⟩ := hg
  subst hv
  have HK2 := Lib.hid (H1.out.1.keptNew H1.out.2 k2)
  have HLB := Lib.hid (show w.heap.size ≤ lb by have := H1.out.2.size; omega)
  obtain ⟨w3, hw3⟩ : ∃ w3, w3 = w2.alloc (.cells #[.int .u8 97] 5 (1, 2)) := ⟨_, rfl⟩
  have k3 : Kept (fun _ => False) w2 w3 := by rw [hw3]; exact (Kept.refl _ _).alloc _
  have HW3 := Lib.hid hw3
  have HK3 := Lib.hid (HK2.out.trans k3)
  have HS3 := Lib.hid (And.intro (h2.kept k3 (fun _ _ x => x)) (hlog.kept k3 (fun x => x)))
  have HAP := Lib.hid (wAppend_any w.heap.size db mb lb L2 wv1 nmW wv_size 0 0 (by omega) (by omega) (.slice (some ⟨w2.heap.size, 0, none⟩) 1 1) [97] (by decide) w3 HS3.out.1 HS3.out.2 (by rw [hw3]; exact row8_fresh w2 _ _ _ 1 1 rfl rfl (by decide)) (HNI.out.kept HK3.out))
  rw [wv_app] at HAP
  have hcv : (convert 22 22 (.slice (some ⟨w2.heap.size, 0, none⟩) 1 1)).run Tryd.prog (w2.alloc (.cells #[.int .u8 97] 5)) = .ok (.slice (some ⟨w2.heap.size, 0, none⟩) 1 1) (w2.alloc (.cells #[.int .u8 97] 5 (1, 2))) := Go.Joins.run_convert_bytes_const_at w2 22 5 _ _ _ _ (by simp) Tryd.underlying22 Tryd.underlying5
  clear h2 k2 f2 hlog hB hlb hH hw3 k3
  dsimp only [List.length_nil]
  go_wp2_with fail
  rw [← HW3.out]
  refine HAP.out.mono ?_
  rintro e w4 ⟨L4, rfl, h4, k4, f4, hl4, _⟩
  have hl4 := hl4 rfl
  have HK4 := Lib.hid (HK3.out.newer k4 (fun j e => by
    rcases e with e | e
    · rw [e]; exact HLB.out
    · exact (HS3.out.1.lt e).2))
  have HSY := Lib.hid (wSync_any w.heap.size db mb lb L4 wv2 nmW wv_size _ _ w4 h4 hl4)
  rw [wv_sync] at HSY
  have HS4 := Lib.hid (And.intro h4 hl4)
  clear h4 k4 f4 hl4 hcv
  go_wp2_with fail
  refine HSY.out.mono ?_
  rintro e w5 ⟨L5, rfl, h5, k5, f5⟩
  have HL5 := Lib.hid (HS4.out.2.kept k5 (HS4.out.2.apart HS4.out.1))
  have HK5 := Lib.hid (HS4.out.1.keptNew HK4.out k5)
  obtain ⟨w6, hw6⟩ : ∃ w6, w6 = w5.alloc (.cells #[.int .u8 98] 5 (1, 2)) := ⟨_, rfl⟩
  have k6 : Kept (fun _ => False) w5 w6 := by rw [hw6]; exact (Kept.refl _ _).alloc _
  have HW6 := Lib.hid hw6
  have HK6 := Lib.hid (HK5.out.trans k6)
  have HS6 := Lib.hid (And.intro (h5.kept k6 (fun _ _ x => x)) (HL5.out.kept k6 (fun x => x)))
  have HAP2 := Lib.hid (wAppend_any w.heap.size db mb lb L5 wv3 nmW wv_size _ _ (by omega) (by simp) (.slice (some ⟨w5.heap.size, 0, none⟩) 1 1) [98] (by decide) w6 HS6.out.1 HS6.out.2 (by rw [hw6]; exact row8_fresh w5 _ _ _ 1 1 rfl rfl (by decide)) (HNI.out.kept HK6.out))
  rw [wv_app2] at HAP2
  have hcv : (convert 22 22 (.slice (some ⟨w5.heap.size, 0, none⟩) 1 1)).run Tryd.prog (w5.alloc (.cells #[.int .u8 98] 5)) = .ok (.slice (some ⟨w5.heap.size, 0, none⟩) 1 1) (w5.alloc (.cells #[.int .u8 98] 5 (1, 2))) := Go.Joins.run_convert_bytes_const_at w5 22 5 _ _ _ _ (by simp) Tryd.underlying22 Tryd.underlying5
  clear h5 k5 f5 hw6 k6
  go_wp2_with fail
  rw [← HW6.out]
  refine HAP2.out.mono ?_
  rintro e w7 ⟨L7, rfl, h7, k7, f7, hl7, _⟩
  have hl7 := hl7 rfl
  have HK7 := Lib.hid (HK6.out.newer k7 (fun j e => by
    rcases e with e | e
    · rw [e]; exact HLB.out
    · exact (HS6.out.1.lt e).2))
  have HCR := Lib.hid (dCrash_any w.heap.size db mb L7 wv4 0 (by unfold I64; omega) w7 h7)
  rw [wv_crash] at HCR
  have HS7 := Lib.hid (And.intro h7 hl7)
  clear h7 k7 f7 hl7 hcv
  go_wp2_with fail
  refine HCR.out.mono ?_
  rintro e w8 ⟨rfl, h8, k8⟩
  have k8' : Kept (foot db mb L7) w7 w8 := k8.mono (fun _ _ e => .inl e)
  have HK8 := Lib.hid (HS7.out.1.keptNew HK7.out k8')
  have HL8 := Lib.hid (HS7.out.2.kept k8' (HS7.out.2.apart HS7.out.1))
  have HSY2 := Lib.hid (wSync_any w.heap.size db mb lb L7 wv5 nmW wv_size _ _ w8 h8 HL8.out)
  rw [wv_sync2] at HSY2
  have H8 := Lib.hid h8
  clear h8 k8 k8'
  go_wp2_with fail
  refine HSY2.out.mono ?_
  rintro e w9 ⟨L9, rfl, h9, k9, f9⟩
  have HK9 := Lib.hid (H8.out.keptNew HK8.out k9)
  obtain ⟨w10, hw10⟩ : ∃ w10, w10 = w9.alloc (.cells #[.int .i64 5] 3) := ⟨_, rfl⟩
  have HW10 := Lib.hid hw10
  have k10 : Kept (fun _ => False) w9 w10 := by rw [hw10]; exact (Kept.refl _ _).alloc _
  have h10 := h9.kept k10 (fun _ _ x => x)
  have HK10 := Lib.hid (HK9.out.trans k10)
  have HBT := Lib.hid (dBoot_any w.heap.size db mb L9 wv6 (some ⟨w9.heap.size, 0, none⟩) 1 1 [5] rfl w10 h10 (by rw [hw10]; exact slAt_fresh w9 _ _ _ _ 1 1 rfl rfl) (fun _ j e x => by
    have e' : w9.heap.size = j := by injection e
    have := (h9.lt x).1
    omega))
  rw [wv_boot] at HBT
  have H10 := Lib.hid h10
  clear h9 k9 f9 hw10 k10 h10
  go_wp2_with fail
  rw [← HW10.out]
  refine HBT.out.mono ?_
  rintro e w11 ⟨L11, rfl, h11, k11, f11⟩
  have HK11 := Lib.hid (H10.out.keptNew HK10.out k11)
  have HOP2 := Lib.hid (wOpen_there w.heap.size db mb L11 wv7 nmW wv_size _ [[97]] 10 2 w11 h11 rfl rfl (by decide) wv_scan (.inr rfl) (fun _ => by rw [wv_cut]) (HNI.out.kept HK11.out))
  rw [if_pos (by decide), wv_cut, show nmW = { data := #[119] } from rfl] at HOP2
  have H11 := Lib.hid h11
  clear h11 k11 f11
  go_wp2_with fail
  refine HOP2.out.mono ?_
  rintro e w12 ⟨L12, lb2, v2, B2, G2, rfl, h12, k12, f12, hlog2, _, _, _, hg2, _⟩
  have HK12 := Lib.hid (H11.out.keptNew HK11.out k12)
  obtain ⟨a2, c2, hv2, _, hi⟩ := hg2
  obtain ⟨g, ai, ci, hga, _, _, hc0, hr0, _⟩ := hi 0 (by decide)
  subst hv2 hga
  have hcv := conv8 hr0
  simp only [List.getD_cons_zero, List.length_singleton, wv_str] at hcv hc0
  have HSZ := Lib.hid (wSize_any db lb2 _ _ _ w12 hlog2)
  have HUS := Lib.hid (dUsed_any w.heap.size db mb L12 wv8 w12 h12)
  rw [show usedA wv8 = 10 from by kernel_rfl] at HUS
  clear h12 k12 f12 hlog2 hi hr0
  dsimp only [List.length_cons, List.length_nil]
  go_wp2_with fail
  refine HSZ.out.mono ?_
  rintro e w13 ⟨rfl, rfl⟩
  go_wp2_with fail
  refine HUS.out.mono ?_
  rintro e w13 ⟨rfl, rfl⟩
  go_wp2
  go_ret
  exact ⟨rfl, HK12.out⟩
end Go.Proofs.YtficodklidaheaaDoor
/- package limnographref04: Wrap, by the document's sum. -/
namespace Go.Proofs.YtficodklidaheaaDoor
open Go.RowKit
attribute [local go_sem ↓] Go.wp_at_zero Go.wp_at_succ

set_option maxHeartbeats 1000000 in
theorem refStep_any (n : Nat) (hn : n < 4294967296) (w : World) :
    Calls Tryd.prog 110 #[.int .u32 n] w fun e w' => e = .returned (.int .u32 ((stepN n : Nat) : Int)) ∧ w = w' := by
  have e4 : bits .xor .u32 ((n : Int) / 2) 2197175160 = ((n / 2 ^^^ poly : Nat) : Int) := by
    have := xor32 (n / 2) 2197175160 (by omega) (by omega)
    unfold poly
    rw [← this]; simp
  have HS : Hid (stepN n = if n % 2 = 1 then n / 2 ^^^ poly else n / 2) := Lib.hid rfl
  have h0 : (0 : Int) ≤ (n : Int) := by omega
  by_cases h : n % 2 = 1
  · have e5 : (n : Int) % 2 = 1 := by omega
    go_enter Tryd.func110, Tryd.ntmps110
    go_wp2
    go_ret
    exact ⟨by rw [HS.out, if_pos h]; rfl, rfl⟩
  · have e5 : (n : Int) % 2 = 0 := by omega
    go_enter Tryd.func110, Tryd.ntmps110
    go_wp2
    go_ret
    exact ⟨by rw [HS.out, if_neg h]; rfl, rfl⟩

theorem stepsN_snoc (k n : Nat) : stepN (stepsN k n) = stepsN (k + 1) n := (stepsN_add k 1 n).symm

set_option maxHeartbeats 1000000 in
theorem refMore_any (s : Nat) (v : Value) (l : List Nat) (hs : s < 4294967296) (hl : l.length ≤ 1000000000) (w : World) (HB : Row8 w v l) :
    Calls Tryd.prog 106 #[.int .u32 s, v] w fun e w' => e = .returned (.int .u32 ((moreN s l : Nat) : Int)) ∧ w = w' := by
  obtain ⟨ao, c, rfl, hb, hc⟩ := HB
  go_enter Tryd.func106, Tryd.ntmps106
  go_wp2
  go_loopw [0, 5] (fun x t wr => ∃ j : Nat, j ≤ l.length ∧ x = .int .u32 ((moreN s (l.take j) : Nat) : Int) ∧ t = .int .i64 j ∧ w = wr) (fun _ t _ => l.length - (intOf t).toNat)
  case atStart => exact ⟨0, by omega, by simp [moreN], rfl, rfl⟩
  case round =>
    obtain ⟨j, hj, rfl, rfl, rfl⟩ := hrel
    by_cases hd : j < l.length
    · have hd' : (j : Int) < (l.length : Int) := by omega
      have hj0 : (0 : Int) ≤ (j : Int) := by omega
      obtain ⟨a, rfl, hca⟩ := hc j hd
      have hT0 := getD_lt hb hd
      have HT := Lib.hid (takeSucc l j hd)
      have hV0 := moreN_lt s (l.take j) hs (fun x hx => hb x (List.mem_of_mem_take hx))
      obtain ⟨T, hT⟩ : ∃ T, T = l.getD j 0 := ⟨_, rfl⟩
      rw [← hT] at hca hT0 HT
      clear hT hc
      obtain ⟨V, hV⟩ : ∃ V, V = moreN s (l.take j) := ⟨_, rfl⟩
      rw [← hV] at hV0 ⊢
      have HV := Lib.hid hV
      clear hV
      have e1 : IntKind.u32.wrap (T : Int) = (T : Int) := by rw [IntKind.wrap_u32]; omega
      have e2 := xor32 V T hV0 (by omega)
      have hU0 : V ^^^ T < 4294967296 := Nat.xor_lt_two_pow (n := 32) hV0 (by omega)
      go_wp2
      clear e1 e2 hca
      go_loopw [0, 6] (fun x t wr => ∃ k : Nat, k ≤ 8 ∧ x = .int .u32 ((stepsN k (V ^^^ T) : Nat) : Int) ∧ t = .int .i64 k ∧ w = wr) (fun _ t _ => 8 - (intOf t).toNat)
      case atStart => exact ⟨0, by omega, rfl, rfl, rfl⟩
      case round =>
        obtain ⟨k, hk, rfl, rfl, rfl⟩ := hrel
        by_cases hd2 : k < 8
        · have hk' : (k : Int) < 8 := by omega
          have hk0 : (0 : Int) ≤ (k : Int) := by omega
          have hW0 := stepsN_lt k (V ^^^ T) hU0
          have HN4 := Lib.hid (stepsN_snoc k (V ^^^ T))
          obtain ⟨U, hU⟩ : ∃ U, U = stepsN k (V ^^^ T) := ⟨_, rfl⟩
          rw [← hU] at hW0 HN4 ⊢
          clear hU
          go_wp2_with (go_at_call 110; refine (refStep_any U hW0 _).mono ?_; rintro e w' ⟨rfl, rfl⟩)
          go_roundw
          case rel => exact ⟨k + 1, hd2, by rw [HN4.out], by go_num, trivial⟩
          case measure => simp [intOf]; omega
        · obtain rfl : k = 8 := by omega
          go_wp2
          go_roundw
          case rel => exact ⟨j + 1, hd, by rw [HT.out, moreN_snoc, ← HV.out], by go_num, trivial⟩
          case measure => simp [intOf]; omega
    · obtain rfl : j = l.length := by omega
      rw [List.take_length]
      clear hc
      go_wp2
      go_ret
      exact ⟨rfl, rfl⟩

set_option maxHeartbeats 1000000 in
theorem refOf_any (v : Value) (l : List Nat) (hl : l.length ≤ 1000000000) (w : World) (HB : Row8 w v l) :
    Calls Tryd.prog 90 #[v] w fun e w' => e = .returned (.int .u32 ((crcMore 0 l : Nat) : Int)) ∧ w = w' := by
  have hb : ∀ x ∈ l, x < 256 := by obtain ⟨_, _, _, hb, _⟩ := HB; exact hb
  have hM := moreN_lt 4294967295 l (by omega) hb
  have HJ : Hid (crcMore 0 l = 4294967295 - moreN 4294967295 l) := Lib.hid rfl
  have e1 : IntKind.u32.wrap (4294967295 - ((moreN 4294967295 l : Nat) : Int)) = ((4294967295 - moreN 4294967295 l : Nat) : Int) := by rw [IntKind.wrap_u32]; omega
  go_enter Tryd.func90, Tryd.ntmps90
  go_wp2_with (go_at_call 106; refine (refMore_any 4294967295 v l (by omega) hl _ HB).mono ?_; rintro e w' ⟨rfl, rfl⟩)
  go_ret
  exact ⟨by rw [HJ.out]; rfl, rfl⟩

/-- A row of bytes that is answered with no error. -/
def RefWrapped (w : World) (l : List Nat) (e : Ending) (w' : World) : Prop :=
  ∃ c, ∃ g, e = .returned (.tuple #[.slice (some ⟨g, 0, none⟩) (9 + l.length) c, .int .i64 0]) ∧ Row8 w' (.slice (some ⟨g, 0, none⟩) (9 + l.length) c) (frameL l) ∧ Kept (fun _ => False) w w'

set_option maxRecDepth 100000 in
set_option maxHeartbeats 4000000 in
theorem refWrap_any (ao : Option Addr) (c : Nat) (l : List Nat) (hl : l.length ≤ 65536) (w : World) (HB : Row8 w (.slice ao l.length c) l) :
    Calls Tryd.prog 61 #[.slice ao l.length c] w (RefWrapped w l) := by
  have hlb := HB.lt
  have c1 : decide ((65536 : Int) < (l.length : Int)) = false := decide_eq_false (by omega)
  have HF1 := Lib.hid (refFour_any l.length (by omega))
  have HF2 := Lib.hid (refFour_any (sumL l) (sumL_lt l))
  have hsl := sumL_lt l
  have QP : ∀ w', Kept (fun _ => False) w w' → (convert 22 9 (.slice ao l.length c)).run Tryd.prog w' = .ok (.string (strN l)) w' := fun w' hk => conv8 (HB.kept hk)
  have hhl : ∀ x ∈ headL l ++ l, x < 256 := by intro x hx; rcases List.mem_append.1 hx with h | h; exact headL_lt l x h; exact hlb x h
  have hhn : (headL l ++ l).length = 5 + l.length := by rw [List.length_append, headL_len]
  have hfn := frameL_len l
  have HOF := Lib.hid (fun (w' : World) => refOf_any _ (headL l ++ l) (by omega) _ (strBytes_row w' (headL l ++ l) hhl (grownCap w' (headL l ++ l).length 0 5)))
  rw [← sumL_eq, hhn] at HOF
  have QB1 := fun w' => strBytes_run w' (headL l ++ l)
  have QB2 := fun w' => strBytes_run w' (frameL l)
  rw [hhn] at QB1
  rw [hfn] at QB2
  have s0 : (ByteArray.mk #[165]) = strN [165] := by decide
  have A1 : ∀ w, (Op.stringOp .add (ByteArray.mk #[165]) (strN (fourL l.length))).run Tryd.prog w = .ok (.string (strN (headL l))) w := fun w => by
    rw [run_string_add_sum w _ _ (by rw [s0, strN_size, strN_size]; simp [fourL_len]), s0, ← strN_append]; rfl
  have A2 : ∀ w, (Op.stringOp .add (strN (headL l)) (strN l)).run Tryd.prog w = .ok (.string (strN (headL l ++ l))) w := fun w => by
    rw [run_string_add_sum w _ _ (by rw [strN_size, strN_size, headL_len]; omega), ← strN_append]
  have A3 : ∀ w, (Op.stringOp .add (strN (headL l)) (strN (fourL (sumL l)))).run Tryd.prog w = .ok (.string (strN (headL l ++ fourL (sumL l)))) w := fun w => by
    rw [run_string_add_sum w _ _ (by rw [strN_size, strN_size, headL_len, fourL_len]; omega), ← strN_append]
  have A4 : ∀ w, (Op.stringOp .add (strN (headL l ++ fourL (sumL l))) (strN l)).run Tryd.prog w = .ok (.string (strN (frameL l))) w := fun w => by
    rw [run_string_add_sum w _ _ (by rw [strN_size, strN_size, List.length_append, headL_len, fourL_len]; omega), ← strN_append]; rfl
  have HR : Hid (∀ w', Row8 (Lib.bytesWorld w' 5 (strN (frameL l))) (.slice (some ⟨w'.heap.size, 0, none⟩) (9 + l.length) (grownCap w' (9 + l.length) 0 5)) (frameL l)) := Lib.hid fun w' => by
    have := strBytes_row w' (frameL l) (frameL_lt l hlb) (grownCap w' (9 + l.length) 0 5)
    rw [hfn] at this
    exact this
  obtain ⟨N9, hN9⟩ : ∃ N, N = 9 + l.length := ⟨_, rfl⟩
  have HN9 := Lib.hid hN9
  obtain ⟨N5, hN5⟩ : ∃ N, N = 5 + l.length := ⟨_, rfl⟩
  rw [← hN9] at HR QB2
  rw [← hN5] at HOF QB1
  obtain ⟨X0, hX0⟩ : ∃ X, X = strN (fourL l.length) := ⟨_, rfl⟩
  obtain ⟨X1, hX1⟩ : ∃ X, X = strN (headL l) := ⟨_, rfl⟩
  obtain ⟨X2, hX2⟩ : ∃ X, X = strN l := ⟨_, rfl⟩
  obtain ⟨X3, hX3⟩ : ∃ X, X = strN (headL l ++ l) := ⟨_, rfl⟩
  obtain ⟨X4, hX4⟩ : ∃ X, X = strN (fourL (sumL l)) := ⟨_, rfl⟩
  obtain ⟨X5, hX5⟩ : ∃ X, X = strN (headL l ++ fourL (sumL l)) := ⟨_, rfl⟩
  obtain ⟨X6, hX6⟩ : ∃ X, X = strN (frameL l) := ⟨_, rfl⟩
  rw [← hX0] at HF1 A1
  rw [← hX1] at A1 A2 A3
  rw [← hX2] at A2 A4 QP
  rw [← hX3] at A2 QB1 HOF
  rw [← hX4] at HF2 A3
  rw [← hX5] at A3 A4
  rw [← hX6] at A4 QB2 HR
  obtain ⟨SL, hSL⟩ : ∃ s, s = sumL l := ⟨_, rfl⟩
  rw [← hSL] at HF2 HOF hsl
  have e5 : IntKind.i64.wrap (SL : Int) = (SL : Int) := IntWalk.i64_in _ ⟨by omega, by omega⟩
  have HQP := Lib.hid QP
  clear HB hlb hhl hhn hfn s0 hN9 hN5 hX0 hX1 hX2 hX3 hX4 hX5 hX6 hSL QP
  go_enter Tryd.func61, Tryd.ntmps61
  go_wp2_with (go_at_call 89; refine (HF1.out _).mono ?_; rintro e w1 ⟨rfl, hk1⟩; have K1 := Lib.hid hk1; clear hk1)
  refine wp_region_held_drew (S := fun w' => (convert 22 9 (.slice ao l.length c)).run Tryd.prog w' = .ok (.string X2) w') (by kernel_rfl) ?_ (fun hHeld => ?_)
  · exact HQP.out _ K1.out.drew
  refine wpAnyH_take (i := 0) (oi := ({ dst := some 12, op := Op.move (Operand.tmp 4), type := 9, pos := "ref.go:29", after := #[], guard := none } : Oper)) (v := ?v0) rfl (by kernel_rfl) (by kernel_rfl) (by kernel_rfl) (fun _ _ _ h => h) (Or.inl ⟨by rfl, ?hy0⟩) (by assumption) ?r0
  case hy0 =>
    intro w hSw
    try dsimp only at hSw
    go_simp
    try with_reducible rfl
  try simp only [Act.put, List.setIfInBounds_toArray, List.set_cons_zero, List.set_cons_succ]
  refine wpAnyH_take (i := 1) (oi := ({ dst := some 13, op := Op.move (Operand.tmp 4), type := 9, pos := "ref.go:29", after := #[], guard := none } : Oper)) (v := ?v1) rfl (by kernel_rfl) (by kernel_rfl) (by kernel_rfl) (fun _ _ _ h => h) (Or.inl ⟨by rfl, ?hy1⟩) (by assumption) ?r1
  case hy1 =>
    intro w hSw
    try dsimp only at hSw
    go_simp
    try with_reducible rfl
  try simp only [Act.put, List.setIfInBounds_toArray, List.set_cons_zero, List.set_cons_succ]
  refine wpAnyH_take (i := 2) (oi := ({ dst := some 14, op := Op.move (Operand.tmp 0), type := 22, pos := "ref.go:29", after := #[], guard := none } : Oper)) (v := ?v2) rfl (by kernel_rfl) (by kernel_rfl) (by kernel_rfl) (fun _ _ _ h => h) (Or.inl ⟨by rfl, ?hy2⟩) (by assumption) ?r2
  case hy2 =>
    intro w hSw
    try dsimp only at hSw
    go_simp
    try with_reducible rfl
  try simp only [Act.put, List.setIfInBounds_toArray, List.set_cons_zero, List.set_cons_succ]
  refine wpAnyH_take (i := 3) (oi := ({ dst := some 15, op := Op.convert 22 9 (Operand.tmp 14), type := 9, pos := "ref.go:29", after := #[{ on := 2, ground := Ground.data }], guard := none } : Oper)) (v := ?v3) rfl (by kernel_rfl) (by kernel_rfl) (by kernel_rfl) (fun _ _ _ h => h) (Or.inl ⟨by rfl, ?hy3⟩) (by assumption) ?r3
  case hy3 =>
    intro w hSw
    try dsimp only at hSw
    go_simp
    try with_reducible rfl
  try simp only [Act.put, List.setIfInBounds_toArray, List.set_cons_zero, List.set_cons_succ]
  refine wpAnyH_take (i := 4) (oi := ({ dst := some 16, op := Op.binOp BinOp.add 9 (Operand.tmp 13) (Operand.tmp 15) 9, type := 9, pos := "ref.go:29", after := #[{ on := 1, ground := Ground.data }, { on := 3, ground := Ground.data }], guard := none } : Oper)) (v := ?v4) rfl (by kernel_rfl) (by kernel_rfl) (by kernel_rfl) (fun _ _ _ h => h) (Or.inl ⟨by rfl, ?hy4⟩) (by assumption) ?r4
  case hy4 =>
    intro w hSw
    try dsimp only at hSw
    go_simp
    try with_reducible rfl
  try simp only [Act.put, List.setIfInBounds_toArray, List.set_cons_zero, List.set_cons_succ]
  refine wpAnyH_take (i := 10) (oi := ({ dst := some 22, op := Op.move (Operand.tmp 0), type := 22, pos := "ref.go:29", after := #[], guard := none } : Oper)) (v := ?v10) rfl (by kernel_rfl) (by kernel_rfl) (by kernel_rfl) (fun _ _ _ h => h) (Or.inl ⟨by rfl, ?hy10⟩) (by assumption) ?r10
  case hy10 =>
    intro w hSw
    try dsimp only at hSw
    go_simp
    try with_reducible rfl
  try simp only [Act.put, List.setIfInBounds_toArray, List.set_cons_zero, List.set_cons_succ]
  refine wpAnyH_take (i := 11) (oi := ({ dst := some 23, op := Op.convert 22 9 (Operand.tmp 22), type := 9, pos := "ref.go:29", after := #[{ on := 10, ground := Ground.data }], guard := none } : Oper)) (v := ?v11) rfl (by kernel_rfl) (by kernel_rfl) (by kernel_rfl) (fun _ _ _ h => h) (Or.inl ⟨by rfl, ?hy11⟩) (by assumption) ?r11
  case hy11 =>
    intro w hSw
    try dsimp only at hSw
    go_simp
    try with_reducible rfl
  try simp only [Act.put, List.setIfInBounds_toArray, List.set_cons_zero, List.set_cons_succ]
  refine wpAnyH_ready (rs := [5]) (by kernel_rfl) (by simp) ?_
  refine AllReadyH.cons (o := ({ dst := some 17, op := Op.convert 9 22 (Operand.tmp 16), type := 22, pos := "ref.go:29", after := #[{ on := 4, ground := Ground.data }], guard := none } : Oper)) rfl (fun K hK => ?_) AllReadyH.nil
  go_simp
  refine hK.out _ _ ?_ (fun hHeld => ?_)
  · exact HQP.out _ (K1.out.drew.trans (strBytes_kept _ _))
  clear hK K
  try simp only [Act.put, List.setIfInBounds_toArray, List.set_cons_zero, List.set_cons_succ]
  refine wpAnyH_ready (rs := [6]) (by kernel_rfl) (by simp) ?_
  refine AllReadyH.cons (o := ({ dst := some 18, op := Op.call { callee := Callee.value (Operand.func 90), args := #[Operand.tmp 17], argTypes := #[22] }, type := 104, pos := "ref.go:29", after := #[{ on := 5, ground := Ground.data }], guard := none } : Oper)) rfl (fun K hK => ?_) AllReadyH.nil
  go_simp
  go_wp2_with (go_at_call 90; refine (HOF.out _).mono ?_; rintro e w' ⟨rfl, rfl⟩)
  refine hK.out _ _ ?_ (fun hHeld => ?_)
  · exact HQP.out _ (K1.out.drew.trans (strBytes_kept _ _))
  clear hK K
  try simp only [Act.put, List.setIfInBounds_toArray, List.set_cons_zero, List.set_cons_succ]
  refine wpAnyH_take (i := 7) (oi := ({ dst := some 19, op := Op.convert 104 3 (Operand.tmp 18), type := 3, pos := "ref.go:29", after := #[{ on := 6, ground := Ground.data }], guard := none } : Oper)) (v := ?v7) rfl (by kernel_rfl) (by kernel_rfl) (by kernel_rfl) (fun _ _ _ h => h) (Or.inl ⟨by rfl, ?hy7⟩) (by assumption) ?r7
  case hy7 =>
    intro w hSw
    try dsimp only at hSw
    go_simp
    try with_reducible rfl
  try simp only [Act.put, List.setIfInBounds_toArray, List.set_cons_zero, List.set_cons_succ]
  refine wpAnyH_ready (rs := [8]) (by kernel_rfl) (by simp) ?_
  refine AllReadyH.cons (o := ({ dst := some 20, op := Op.call { callee := Callee.value (Operand.func 89), args := #[Operand.tmp 19], argTypes := #[3] }, type := 9, pos := "ref.go:29", after := #[{ on := 7, ground := Ground.data }, { on := 6, ground := Ground.chain }], guard := none } : Oper)) rfl (fun K hK => ?_) AllReadyH.nil
  go_simp
  go_wp2_with (go_at_call 89; refine (HF2.out _).mono ?_; rintro e w3 ⟨rfl, hk3⟩; have K3 := Lib.hid ((K1.out.drew.trans (strBytes_kept _ _)).trans hk3); clear hk3)
  refine hK.out _ _ ?_ (fun hHeld => ?_)
  · exact HQP.out _ K3.out
  clear hK K
  try simp only [Act.put, List.setIfInBounds_toArray, List.set_cons_zero, List.set_cons_succ]
  refine wpAnyH_take (i := 9) (oi := ({ dst := some 21, op := Op.binOp BinOp.add 9 (Operand.tmp 12) (Operand.tmp 20) 9, type := 9, pos := "ref.go:29", after := #[{ on := 0, ground := Ground.data }, { on := 8, ground := Ground.data }], guard := none } : Oper)) (v := ?v9) rfl (by kernel_rfl) (by kernel_rfl) (by kernel_rfl) (fun _ _ _ h => h) (Or.inl ⟨by rfl, ?hy9⟩) (by assumption) ?r9
  case hy9 =>
    intro w hSw
    try dsimp only at hSw
    go_simp
    try with_reducible rfl
  try simp only [Act.put, List.setIfInBounds_toArray, List.set_cons_zero, List.set_cons_succ]
  refine wpAnyH_take (i := 12) (oi := ({ dst := some 24, op := Op.binOp BinOp.add 9 (Operand.tmp 21) (Operand.tmp 23) 9, type := 9, pos := "ref.go:29", after := #[{ on := 9, ground := Ground.data }, { on := 11, ground := Ground.data }], guard := none } : Oper)) (v := ?v12) rfl (by kernel_rfl) (by kernel_rfl) (by kernel_rfl) (fun _ _ _ h => h) (Or.inl ⟨by rfl, ?hy12⟩) (by assumption) ?r12
  case hy12 =>
    intro w hSw
    try dsimp only at hSw
    go_simp
    try with_reducible rfl
  try simp only [Act.put, List.setIfInBounds_toArray, List.set_cons_zero, List.set_cons_succ]
  refine wpAnyH_ready (rs := [13]) (by kernel_rfl) (by simp) ?_
  refine AllReadyH.cons (o := ({ dst := some 25, op := Op.convert 9 22 (Operand.tmp 24), type := 22, pos := "ref.go:29", after := #[{ on := 12, ground := Ground.data }], guard := none } : Oper)) rfl (fun K hK => ?_) AllReadyH.nil
  go_simp
  refine hK.out _ _ ?_ (fun hHeld => ?_)
  · exact HQP.out _ (K3.out.trans (strBytes_kept _ _))
  clear hK K
  try simp only [Act.put, List.setIfInBounds_toArray, List.set_cons_zero, List.set_cons_succ]
  refine wpAnyH_take (i := 14) (oi := ({ dst := some 2, op := Op.assign (Operand.tmp 25), type := 22, pos := "ref.go:29", after := #[{ on := 13, ground := Ground.data }, { on := 8, ground := Ground.chain }, { on := 0, ground := Ground.phase }, { on := 1, ground := Ground.phase }, { on := 2, ground := Ground.phase }, { on := 3, ground := Ground.phase }, { on := 4, ground := Ground.phase }, { on := 5, ground := Ground.phase }, { on := 6, ground := Ground.phase }, { on := 7, ground := Ground.phase }, { on := 8, ground := Ground.phase }, { on := 9, ground := Ground.phase }, { on := 10, ground := Ground.phase }, { on := 11, ground := Ground.phase }, { on := 12, ground := Ground.phase }, { on := 13, ground := Ground.phase }], guard := none } : Oper)) (v := ?v14) rfl (by kernel_rfl) (by kernel_rfl) (by kernel_rfl) (fun _ _ _ h => h) (Or.inl ⟨by rfl, ?hy14⟩) (by assumption) ?r14
  case hy14 =>
    intro w hSw
    try dsimp only at hSw
    go_simp
    try with_reducible rfl
  try simp only [Act.put, List.setIfInBounds_toArray, List.set_cons_zero, List.set_cons_succ]
  refine wpAnyH_take (i := 15) (oi := ({ dst := some 3, op := Op.assign (Operand.const (Value.int IntKind.i64 0)), type := 24, pos := "ref.go:29", after := #[{ on := 14, ground := Ground.chain }, { on := 0, ground := Ground.phase }, { on := 1, ground := Ground.phase }, { on := 2, ground := Ground.phase }, { on := 3, ground := Ground.phase }, { on := 4, ground := Ground.phase }, { on := 5, ground := Ground.phase }, { on := 6, ground := Ground.phase }, { on := 7, ground := Ground.phase }, { on := 8, ground := Ground.phase }, { on := 9, ground := Ground.phase }, { on := 10, ground := Ground.phase }, { on := 11, ground := Ground.phase }, { on := 12, ground := Ground.phase }, { on := 13, ground := Ground.phase }, { on := 14, ground := Ground.phase }], guard := none } : Oper)) (v := ?v15) rfl (by kernel_rfl) (by kernel_rfl) (by kernel_rfl) (fun _ _ _ h => h) (Or.inl ⟨by rfl, ?hy15⟩) (by assumption) ?r15
  case hy15 =>
    intro w hSw
    try dsimp only at hSw
    go_simp
    try with_reducible rfl
  try simp only [Act.put, List.setIfInBounds_toArray, List.set_cons_zero, List.set_cons_succ]
  refine wpAnyH_done (by kernel_rfl) ?_ _
  have HFIN : RefWrapped w l (.returned (.tuple #[.slice (some ⟨w3.heap.size, 0, none⟩) N9 (grownCap w3 N9 0 5), .int .i64 0])) (Lib.bytesWorld w3 5 X6) := by
    unfold RefWrapped
    rw [← HN9.out]
    exact ⟨_, _, rfl, HR.out w3, K3.out.trans (strBytes_kept _ _)⟩
  go_wp2
  go_ret2
  exact HFIN
end Go.Proofs.YtficodklidaheaaDoor
