/- Texts put together: SFr, WG. -/
import Derived.Test.YtficodklidaheaaDoorZz2
import Derived.Lib.SmallJoins
import Derived.Test.YtficodklidaheaaDoorZz15
import Derived.Test.YtficodklidaheaaDoorZz17
import Derived.Test.YtficodklidaheaaDoorZz19
/- Slices that were just made. -/
namespace Go.Proofs.YtficodklidaheaaDoor
open Go.RowKit

theorem run_make1 {P : Program} {t e : TypeId} {i : TypeInfo} {z : Value} (ht : P.underlying t = some (.slice e)) (hi : P.info? e = some i) (hz : i.zero = some z) (hs : i.size = 1) (hzc : z.cells = #[z]) (hb : i.bytes ≤ 64) (n : Nat) (hn : n ≤ 1000000) (w : World) :
    (Instr.makeSlice t (.int .i64 (n : Int)) (.int .i64 (n : Int))).run P w = .ok (.slice (some ⟨w.heap.size, 0, none⟩) n n) (w.alloc (.cells (Array.replicate n z) e)) := by
  have hbn : (i.bytes : Int) * (n : Int) ≤ 64 * 1000000 := by
    have : i.bytes * n ≤ 64 * 1000000 := Nat.mul_le_mul hb hn
    have h2 : ((i.bytes * n : Nat) : Int) ≤ 64 * 1000000 := by omega
    rwa [Int.natCast_mul] at h2
  have hr := run_makeSlice (P := P) w t e i z ht hi hz .i64 .i64 (n : Int) (n : Int) (by omega) (Int.le_refl _) (by rw [hs]; omega) (by omega) (by omega)
  rw [hr]
  simp only [Int.toNat_natCast]
  have e : madeCells z.cells (n * i.size) = Array.replicate n z := by
    rw [hs, Nat.mul_one, hzc]
    apply Array.toList_inj.1
    rw [toList_madeCells_one]; simp
  rw [e]
theorem slAt_fresh (w : World) (T : TypeId) (xs : List Value) (cs : Array Value) (fr : Nat × Nat) (n c : Nat) (hc : cs.toList = xs) (hn : xs.length = n) : SlAt (w.alloc (.cells cs T fr)) (.slice (some ⟨w.heap.size, 0, none⟩) n c) xs := by
  refine ⟨some ⟨w.heap.size, 0, none⟩, c, by rw [hn], fun e => (by cases e), fun a e j u hu => ?_⟩
  injection e with e
  subst e
  rw [addr_add0, cell_of_row _ _ j _ _ _ (heap_alloc_new w _), ← Array.getElem?_toList, hc]
  exact hu
end Go.Proofs.YtficodklidaheaaDoor
/- Layer 19 is awake. -/
namespace Go.Proofs.YtficodklidaheaaDoor
open Go.RowKit
attribute [local go_sem ↓] Go.wp_at_zero Go.wp_at_succ

def nmW : ByteArray := { data := #[119] }
def fA : List Nat := frameL [97]
def fB : List Nat := frameL [98]
def wv0 : DA := freshD 100 []
def wv1 : DA := { wv0 with L := [(nmW, ⟨[], 0⟩)], calls := 1 }
def wv2 : DA := { wv1 with L := [(nmW, ⟨fA, 0⟩)], calls := 2 }
def wv3 : DA := { wv1 with L := [(nmW, ⟨fA, 10⟩)], calls := 3 }
def wv4 : DA := { wv1 with L := [(nmW, ⟨fA ++ fB, 10⟩)], calls := 4 }
def wv5 : DA := { wv4 with crashIn := 0 }
def wv6 : DA := { wv4 with down := true, calls := 5 }
def wv7 : DA := { wv4 with L := [(nmW, ⟨fA ++ fB.take 5, 15⟩)], calls := 5 }
def wv8 : DA := { wv4 with L := [(nmW, ⟨fA, 10⟩)], calls := 6 }
theorem wv_new : newD [] 100 = some wv0 := by kernel_rfl
theorem wv_create : createD wv0 nmW = (wv1, 0) := by kernel_rfl
theorem wv_app : appendD wv1 nmW (frameL [97]) = (wv2, 0) := by kernel_rfl
theorem wv_sync : syncD wv2 nmW = (wv3, 0) := by kernel_rfl
theorem wv_app2 : appendD wv3 nmW (frameL [98]) = (wv4, 0) := by kernel_rfl
theorem wv_crash : crashD wv4 0 = wv5 := by kernel_rfl
theorem wv_sync2 : syncD wv5 nmW = (wv6, 13) := by kernel_rfl
theorem wv_boot : bootD wv6 [5] = (wv7, 0) := by kernel_rfl
theorem wv_cut : cutD wv7 nmW ((10 : Nat) : Int) = (wv8, 0) := by kernel_rfl
theorem wv_scan : ScanR (fA ++ fB.take 5) [[97]] 10 2 := by
  have h : firstE (fB.take 5) = 2 := by kernel_rfl
  have := ScanR.frame (l := [97]) (by simp) (ScanR.bad (fB.take 5) (by intro e; have := congrArg List.length e; simp [fB, frameL_len] at this) (by rw [h]; decide))
  rw [h] at this
  exact this
theorem wv_str : strN [97] = { data := #[97] } := by kernel_rfl
theorem wv_size : nmW.size ≤ maxLen := by unfold maxLen nmW; decide
theorem DK.keptNew {w wN w' : World} {db mb : Nat} {L : List (ByteArray × Fi)} {D : DA} (h : DK w.heap.size wN db mb L D) (hk : Kept (fun _ => False) w wN) (k : Kept (foot db mb L) wN w') : Kept (fun _ => False) w w' := hk.newer k (fun _ e => (h.lt e).2)
theorem nibs_pos {w : World} (h : Nibs w) : 0 < w.heap.size := by
  have := World.block_lt_of_cell? w _ (h 0 (by omega))
  exact this
theorem row8_fresh (w : World) (l : List Nat) (cs : Array Value) (fr : Nat × Nat) (n c : Nat) (hc : cs.toList = b8 l) (hn : l.length = n) (hb : ∀ x ∈ l, x < 256) : Row8 (w.alloc (.cells cs 5 fr)) (.slice (some ⟨w.heap.size, 0, none⟩) n c) l := by
  subst hn
  refine ⟨some ⟨w.heap.size, 0, none⟩, c, rfl, hb, fun j hj => ⟨_, rfl, ?_⟩⟩
  rw [addr_add0, cell_of_row _ _ j _ _ _ (heap_alloc_new w _), ← Array.getElem?_toList, hc]
  exact byV_get hj
set_option maxHeartbeats 8000000 in
set_option maxRecDepth 100000 in
theorem awake19_any (w : World) (HN : Nibs w) : Calls Tryd.prog 20 #[] w fun e w' => e = .returned (.bool true) ∧ Kept (fun _ => False) w w' := by
  have hb0 := nibs_pos HN
  have HNI := Lib.hid HN
  have HNEW := Lib.hid (dNew_any none 0 0 [] rfl 100 (by decide) w (fun h => absurd h (by simp)) (fun f hf => by cases hf))
  have e0 : List.map AF.t [] = [] := rfl
  rw [e0, wv_new] at HNEW
  have ews : Value.string nmW = Value.string { data := #[119] } := rfl
  clear e0 HN
  go_enter Tryd.func20, Tryd.ntmps20
  go_wp2_with fail
  refine HNEW.out.mono ?_
  rintro e w1 ⟨_, h2⟩
  obtain ⟨db, mb, L, rfl, h1, k1⟩ := h2 _ rfl
  have HOP := Lib.hid (wOpen_new w.heap.size db mb hb0 L wv0 nmW wv_size w1 h1 rfl rfl (HNI.out.kept k1))
  rw [wv_create, show nmW = { data := #[119] } from rfl] at HOP
  have H1 := Lib.hid (And.intro h1 k1)
  clear h2 h1 k1
  go_wp2_with fail
  refine HOP.out.mono ?_
  rintro e w2 (⟨_, L2, lb, v, B, H, rfl, h2, k2, f2, hlog, hB, hlb, hH, hg, _⟩ | ⟨h0, _⟩)
  case inr => exact absurd rfl h0
  obtain ⟨va, vc, hv, _⟩ := hg
  subst hv
  have HK2 := Lib.hid (H1.out.1.keptNew H1.out.2 k2)
  have HLB := Lib.hid (show w.heap.size ≤ lb by have := H1.out.2.size; omega)
  obtain ⟨w3, hw3⟩ : ∃ w3, w3 = w2.alloc (.cells #[.int .u8 97] 5 (1, 2)) := ⟨_, rfl⟩
  have k3 : Kept (fun _ => False) w2 w3 := by rw [hw3]; exact (Kept.refl _ _).alloc _
  have HW3 := Lib.hid hw3
  have HK3 := Lib.hid (HK2.out.trans k3)
  have HS3 := Lib.hid (And.intro (h2.kept k3 (fun _ _ x => x)) (hlog.kept k3 (fun x => x)))
  have HAP := Lib.hid (wAppend_any w.heap.size db mb lb L2 wv1 nmW wv_size 0 0 (by omega) (by omega) (.slice (some ⟨w2.heap.size, 0, none⟩) 1 1) [97] (by decide) w3 HS3.out.1 HS3.out.2 (by rw [hw3]; exact row8_fresh w2 _ _ _ 1 1 rfl rfl (by decide)) (HNI.out.kept HK3.out))
  rw [wv_app] at HAP
  have hcv : (convert 22 22 (.slice (some ⟨w2.heap.size, 0, none⟩) 1 1)).run Tryd.prog (w2.alloc (.cells #[.int .u8 97] 5)) = .ok (.slice (some ⟨w2.heap.size, 0, none⟩) 1 1) (w2.alloc (.cells #[.int .u8 97] 5 (1, 2))) := Go.Joins.run_convert_bytes_const_at w2 22 5 _ _ _ _ (by simp) Tryd.underlying22 Tryd.underlying5
  clear h2 k2 f2 hlog hB hlb hH hw3 k3
  dsimp only [List.length_nil]
  go_wp2_with fail
  rw [← HW3.out]
  refine HAP.out.mono ?_
  rintro e w4 ⟨L4, rfl, h4, k4, f4, hl4, _⟩
  have hl4 := hl4 rfl
  have HK4 := Lib.hid (HK3.out.newer k4 (fun j e => by
    rcases e with e | e
    · rw [e]; exact HLB.out
    · exact (HS3.out.1.lt e).2))
  have HSY := Lib.hid (wSync_any w.heap.size db mb lb L4 wv2 nmW wv_size _ _ w4 h4 hl4)
  rw [wv_sync] at HSY
  have HS4 := Lib.hid (And.intro h4 hl4)
  clear h4 k4 f4 hl4 hcv
  go_wp2_with fail
  refine HSY.out.mono ?_
  rintro e w5 ⟨L5, rfl, h5, k5, f5⟩
  have HL5 := Lib.hid (HS4.out.2.kept k5 (HS4.out.2.apart HS4.out.1))
  have HK5 := Lib.hid (HS4.out.1.keptNew HK4.out k5)
  obtain ⟨w6, hw6⟩ : ∃ w6, w6 = w5.alloc (.cells #[.int .u8 98] 5 (1, 2)) := ⟨_, rfl⟩
  have k6 : Kept (fun _ => False) w5 w6 := by rw [hw6]; exact (Kept.refl _ _).alloc _
  have HW6 := Lib.hid hw6
  have HK6 := Lib.hid (HK5.out.trans k6)
  have HS6 := Lib.hid (And.intro (h5.kept k6 (fun _ _ x => x)) (HL5.out.kept k6 (fun x => x)))
  have HAP2 := Lib.hid (wAppend_any w.heap.size db mb lb L5 wv3 nmW wv_size _ _ (by omega) (by simp) (.slice (some ⟨w5.heap.size, 0, none⟩) 1 1) [98] (by decide) w6 HS6.out.1 HS6.out.2 (by rw [hw6]; exact row8_fresh w5 _ _ _ 1 1 rfl rfl (by decide)) (HNI.out.kept HK6.out))
  rw [wv_app2] at HAP2
  have hcv : (convert 22 22 (.slice (some ⟨w5.heap.size, 0, none⟩) 1 1)).run Tryd.prog (w5.alloc (.cells #[.int .u8 98] 5)) = .ok (.slice (some ⟨w5.heap.size, 0, none⟩) 1 1) (w5.alloc (.cells #[.int .u8 98] 5 (1, 2))) := Go.Joins.run_convert_bytes_const_at w5 22 5 _ _ _ _ (by simp) Tryd.underlying22 Tryd.underlying5
  clear h5 k5 f5 hw6 k6
  go_wp2_with fail
  rw [← HW6.out]
  refine HAP2.out.mono ?_
  rintro e w7 ⟨L7, rfl, h7, k7, f7, hl7, _⟩
  have hl7 := hl7 rfl
  have HK7 := Lib.hid (HK6.out.newer k7 (fun j e => by
    rcases e with e | e
    · rw [e]; exact HLB.out
    · exact (HS6.out.1.lt e).2))
  have HCR := Lib.hid (dCrash_any w.heap.size db mb L7 wv4 0 (by unfold I64; omega) w7 h7)
  rw [wv_crash] at HCR
  have HS7 := Lib.hid (And.intro h7 hl7)
  clear h7 k7 f7 hl7 hcv
  go_wp2_with fail
  refine HCR.out.mono ?_
  rintro e w8 ⟨rfl, h8, k8⟩
  have k8' : Kept (foot db mb L7) w7 w8 := k8.mono (fun _ _ e => .inl e)
  have HK8 := Lib.hid (HS7.out.1.keptNew HK7.out k8')
  have HL8 := Lib.hid (HS7.out.2.kept k8' (HS7.out.2.apart HS7.out.1))
  have HSY2 := Lib.hid (wSync_any w.heap.size db mb lb L7 wv5 nmW wv_size _ _ w8 h8 HL8.out)
  rw [wv_sync2] at HSY2
  have H8 := Lib.hid h8
  clear h8 k8 k8'
  go_wp2_with fail
  refine HSY2.out.mono ?_
  rintro e w9 ⟨L9, rfl, h9, k9, f9⟩
  have HK9 := Lib.hid (H8.out.keptNew HK8.out k9)
  obtain ⟨w10, hw10⟩ : ∃ w10, w10 = w9.alloc (.cells #[.int .i64 5] 3) := ⟨_, rfl⟩
  have HW10 := Lib.hid hw10
  have k10 : Kept (fun _ => False) w9 w10 := by rw [hw10]; exact (Kept.refl _ _).alloc _
  have h10 := h9.kept k10 (fun _ _ x => x)
  have HK10 := Lib.hid (HK9.out.trans k10)
  have HBT := Lib.hid (dBoot_any w.heap.size db mb L9 wv6 (some ⟨w9.heap.size, 0, none⟩) 1 1 [5] rfl w10 h10 (by rw [hw10]; exact slAt_fresh w9 _ _ _ _ 1 1 rfl rfl) (fun _ j e x => by
    have e' : w9.heap.size = j := by injection e
    have := (h9.lt x).1
    omega))
  rw [wv_boot] at HBT
  have H10 := Lib.hid h10
  clear h9 k9 f9 hw10 k10 h10
  go_wp2_with fail
  rw [← HW10.out]
  refine HBT.out.mono ?_
  rintro e w11 ⟨L11, rfl, h11, k11, f11⟩
  have HK11 := Lib.hid (H10.out.keptNew HK10.out k11)
  have HOP2 := Lib.hid (wOpen_there w.heap.size db mb L11 wv7 nmW wv_size _ [[97]] 10 2 w11 h11 rfl rfl (by decide) wv_scan (.inr rfl) (fun _ => by rw [wv_cut]) (HNI.out.kept HK11.out))
  rw [if_pos (by decide), wv_cut, show nmW = { data := #[119] } from rfl] at HOP2
  have H11 := Lib.hid h11
  clear h11 k11 f11
  go_wp2_with fail
  refine HOP2.out.mono ?_
  rintro e w12 ⟨L12, lb2, v2, B2, G2, rfl, h12, k12, f12, hlog2, _, _, _, hg2, _⟩
  have HK12 := Lib.hid (H11.out.keptNew HK11.out k12)
  obtain ⟨a2, c2, hv2, _, hi⟩ := hg2
  obtain ⟨g, ai, ci, hga, _, _, hc0, hr0, _⟩ := hi 0 (by decide)
  subst hv2 hga
  have hcv := conv8 hr0
  simp only [List.getD_cons_zero, List.length_singleton, wv_str] at hcv hc0
  have HSZ := Lib.hid (wSize_any db lb2 _ _ _ w12 hlog2)
  have HUS := Lib.hid (dUsed_any w.heap.size db mb L12 wv8 w12 h12)
  rw [show usedA wv8 = 10 from by kernel_rfl] at HUS
  clear h12 k12 f12 hlog2 hi hr0
  dsimp only [List.length_cons, List.length_nil]
  go_wp2_with fail
  refine HSZ.out.mono ?_
  rintro e w13 ⟨rfl, rfl⟩
  go_wp2_with fail
  refine HUS.out.mono ?_
  rintro e w13 ⟨rfl, rfl⟩
  go_wp2
  go_ret
  exact ⟨rfl, HK12.out⟩
end Go.Proofs.YtficodklidaheaaDoor
