/- Layer 20: Cost; awake. -/
import Derived.Test.YtficodklidaheaaDoorWS
import Derived.Test.YtficodklidaheaaDoorWC
import Derived.Test.YtficodklidaheaaDoorSC
import Derived.Test.YtficodklidaheaaDoorSL
import Derived.Test.YtficodklidaheaaDoorSFr
namespace Go.Proofs.YtficodklidaheaaDoor
open Go.RowKit
attribute [local go_sem ↓] Go.wp_at_zero Go.wp_at_succ

theorem sCost_any (n : Int) (h0 : -9223372036854775808 ≤ n) (h1 : n ≤ 9223372036854775807) (w : World) :
    Calls Tryd.prog 71 #[.int .i64 n] w fun e w' => e = .returned (.int .i64 (sizeN n)) ∧ w = w' := by
  have HS := Lib.hid (size_any n h0 h1 w)
  obtain ⟨z, hz⟩ : ∃ z, z = sizeN n := ⟨_, rfl⟩
  rw [← hz] at HS ⊢
  clear hz h0 h1
  go_enter Tryd.func71, Tryd.ntmps71
  go_wp2_with fail
  refine HS.out.mono ?_
  rintro e w1 ⟨rfl, rfl⟩
  go_wp2
  go_ret
  exact ⟨rfl, rfl⟩
def tmR : List Nat := [116, 111, 111, 32, 109, 117, 99, 104, 32, 114, 111, 111, 109]
def av0 : DA := freshD 25 []
def av1 : DA := (saveD av0 sN [97]).1
def av2 : DA := (saveD av1 sN tmR).1
def av3 : DA := (loadD av2 sN).1
theorem av_new : newD [] 25 = some av0 := by kernel_rfl
theorem av_save : (saveD av0 sN [97]).2 = 0 := by kernel_rfl
theorem av_more : (saveD av1 sN tmR).2 = 12 := by kernel_rfl
theorem av_load : (loadD av2 sN).2 = ([97], true, 0) := by kernel_rfl
theorem av_used : usedA av3 = 10 := by kernel_rfl
theorem DK.keptNew2 {w wN w' : World} {db mb : Nat} {L : List (ByteArray × Fi)} {D : DA} (h : DK w.heap.size wN db mb L D) (hk : Kept (fun _ => False) w wN) (k : Kept (foot db mb L) wN w') : Kept (fun _ => False) w w' := hk.newer k (fun _ e => (h.lt e).2)
theorem nibs_pos2 {w : World} (h : Nibs w) : 0 < w.heap.size := World.block_lt_of_cell? w _ (h 0 (by omega))
theorem row8_fresh2 (w : World) (l : List Nat) (cs : Array Value) (fr : Nat × Nat) (n c : Nat) (hc : cs.toList = b8 l) (hn : l.length = n) (hb : ∀ x ∈ l, x < 256) : Row8 (w.alloc (.cells cs 5 fr)) (.slice (some ⟨w.heap.size, 0, none⟩) n c) l := by
  subst hn
  refine ⟨some ⟨w.heap.size, 0, none⟩, c, rfl, hb, fun j hj => ⟨_, rfl, ?_⟩⟩
  rw [addr_add0, cell_of_row _ _ j _ _ _ (heap_alloc_new w _), ← Array.getElem?_toList, hc]
  exact byV_get hj
theorem sn_str : strN [97] = { data := #[97] } := by kernel_rfl
set_option maxHeartbeats 8000000 in
set_option maxRecDepth 100000 in
theorem awake20_any (w : World) (HN : Nibs w) : Calls Tryd.prog 36 #[] w fun e w' => e = .returned (.bool true) ∧ Kept (fun _ => False) w w' := by
  have hb0 := nibs_pos2 HN
  have HNI := Lib.hid HN
  have HNEW := Lib.hid (dNew_any none 0 0 [] rfl 25 (by decide) w (fun h => absurd h (by simp)) (fun f hf => by cases hf))
  rw [show List.map AF.t [] = [] from rfl, av_new] at HNEW
  clear HN
  go_enter Tryd.func36, Tryd.ntmps36
  go_wp2_with fail
  refine HNEW.out.mono ?_
  rintro e w1 ⟨_, h2⟩
  obtain ⟨db, mb, L, rfl, h1, k1⟩ := h2 _ rfl
  obtain ⟨w2, hw2⟩ : ∃ w2, w2 = w1.alloc (.cells #[.int .u8 97] 5 (1, 2)) := ⟨_, rfl⟩
  have k2 : Kept (fun _ => False) w1 w2 := by rw [hw2]; exact (Kept.refl _ _).alloc _
  have HW2 := Lib.hid hw2
  have HK2 := Lib.hid (k1.trans k2)
  have HD2 := Lib.hid (h1.kept k2 (fun _ _ x => x))
  have HSV := Lib.hid (sSave_any w.heap.size db mb hb0 L av0 sN (by decide) (some ⟨w1.heap.size, 0, none⟩) 1 1 [97] rfl w2 HD2.out (by rw [hw2]; exact row8_fresh2 w1 _ _ _ 1 1 rfl rfl (by decide)) (HNI.out.kept HK2.out) (by decide))
  rw [show sN = { data := #[115] } from rfl] at HSV
  have hcv : (convert 22 22 (.slice (some ⟨w1.heap.size, 0, none⟩) 1 1)).run Tryd.prog (w1.alloc (.cells #[.int .u8 97] 5)) = .ok (.slice (some ⟨w1.heap.size, 0, none⟩) 1 1) (w1.alloc (.cells #[.int .u8 97] 5 (1, 2))) := Go.Joins.run_convert_bytes_const_at w1 22 5 _ _ _ _ (by simp) Tryd.underlying22 Tryd.underlying5
  clear h2 h1 k1 k2 hw2
  go_wp2_with fail
  rw [← HW2.out]
  refine HSV.out.mono ?_
  rintro e w3 ⟨L3, rfl, h3, k3, f3⟩
  rw [show (saveD av0 { data := #[115] } [97]).2 = 0 from av_save]
  have h3' : DK w.heap.size w3 db mb L3 av1 := h3
  have HK3 := Lib.hid (HD2.out.keptNew2 HK2.out k3)
  obtain ⟨w4, hw4⟩ : ∃ w4, w4 = w3.alloc (.cells #[.int .u8 116, .int .u8 111, .int .u8 111, .int .u8 32, .int .u8 109, .int .u8 117, .int .u8 99, .int .u8 104, .int .u8 32, .int .u8 114, .int .u8 111, .int .u8 111, .int .u8 109] 5 (13, 14)) := ⟨_, rfl⟩
  have k4 : Kept (fun _ => False) w3 w4 := by rw [hw4]; exact (Kept.refl _ _).alloc _
  have HW4 := Lib.hid hw4
  have HK4 := Lib.hid (HK3.out.trans k4)
  have HD4 := Lib.hid (h3'.kept k4 (fun _ _ x => x))
  have HSV2 := Lib.hid (sSave_any w.heap.size db mb hb0 L3 av1 sN (by decide) (some ⟨w3.heap.size, 0, none⟩) 13 13 tmR rfl w4 HD4.out (by rw [hw4]; exact row8_fresh2 w3 tmR _ _ 13 13 rfl rfl (by decide)) (HNI.out.kept HK4.out) (by decide))
  rw [show sN = { data := #[115] } from rfl] at HSV2
  have hcv : (convert 22 22 (.slice (some ⟨w3.heap.size, 0, none⟩) 13 13)).run Tryd.prog (w3.alloc (.cells #[.int .u8 116, .int .u8 111, .int .u8 111, .int .u8 32, .int .u8 109, .int .u8 117, .int .u8 99, .int .u8 104, .int .u8 32, .int .u8 114, .int .u8 111, .int .u8 111, .int .u8 109] 5)) = .ok (.slice (some ⟨w3.heap.size, 0, none⟩) 13 13) (w3.alloc (.cells #[.int .u8 116, .int .u8 111, .int .u8 111, .int .u8 32, .int .u8 109, .int .u8 117, .int .u8 99, .int .u8 104, .int .u8 32, .int .u8 114, .int .u8 111, .int .u8 111, .int .u8 109] 5 (13, 14))) := Go.Joins.run_convert_bytes_const_at w3 22 5 _ _ _ _ (by simp) Tryd.underlying22 Tryd.underlying5
  clear h3 h3' k3 f3 hw4 k4
  go_wp2_with fail
  rw [← HW4.out]
  refine HSV2.out.mono ?_
  rintro e w5 ⟨L5, rfl, h5, k5, f5⟩
  rw [show (saveD av1 { data := #[115] } tmR).2 = 12 from av_more]
  have h5' : DK w.heap.size w5 db mb L5 av2 := h5
  have HK5 := Lib.hid (HD4.out.keptNew2 HK4.out k5)
  have HD5 := Lib.hid h5'
  have HLD := Lib.hid (sLoad_any w.heap.size db mb hb0 L5 av2 sN (by decide) w5 h5' (HNI.out.kept HK5.out))
  rw [show sN = { data := #[115] } from rfl] at HLD
  clear h5 h5' k5 f5 hcv
  go_wp2_with fail
  refine HLD.out.mono ?_
  rintro e w6 ⟨L6, a6, c6, he, h6, k6, f6, hr6, _⟩
  rw [show (loadD av2 { data := #[115] }).2 = ([97], true, 0) from av_load] at he hr6
  subst he
  have hcv := conv8 hr6
  rw [sn_str] at hcv
  have HK6 := Lib.hid (HD5.out.keptNew2 HK5.out k6)
  have HUS := Lib.hid (dUsed_any w.heap.size db mb L6 av3 w6 h6)
  rw [av_used] at HUS
  have HCO := Lib.hid (sCost_any 1 (by omega) (by omega) w6)
  rw [show sizeN 1 = 10 from rfl] at HCO
  clear h6 k6 f6 hr6
  dsimp only [List.length_cons, List.length_nil] at hcv ⊢
  go_wp2_with fail
  refine HUS.out.mono ?_
  rintro e w7 ⟨rfl, rfl⟩
  go_wp2_with fail
  refine HCO.out.mono ?_
  rintro e w7 ⟨rfl, rfl⟩
  go_wp2
  go_ret
  exact ⟨rfl, HK6.out⟩
end Go.Proofs.YtficodklidaheaaDoor
