/- Texts put together: SL, WU, X8, X7. -/
import Derived.Test.YtficodklidaheaaDoorZz18
import Derived.Test.YtficodklidaheaaDoorZz16
import Derived.Test.YtficodklidaheaaDoorZz13
import Derived.Test.YtficodklidaheaaDoorZz17
import Derived.Deep.RegionWith
/- Layer 18: Names; plainly: as many files as may be. -/
namespace Go.Proofs.YtficodklidaheaaDoor
open Go.RowKit
attribute [local go_sem ↓] Go.wp_at_zero Go.wp_at_succ

/-- What Names answers. -/
def namesUp (D : DA) : List ByteArray := if D.down = true then [] else namesA D.L
set_option maxHeartbeats 1000000 in
theorem dNames_any (base db mb : Nat) (L : List (ByteArray × Fi)) (D : DA) (w : World) (h : DK base w db mb L D) :
    Calls Tryd.prog 25 #[.pointer (some ⟨db, 0, none⟩)] w fun e w' => ∃ v, e = .returned v ∧ Mine w w' 9 v (strs (namesUp D)) := by
  have c3 := h.c.2.2.2.1
  have HN := Lib.hid (dnames_any base db mb L D w h)
  clear h
  unfold namesUp
  cases hd : D.down
  · rw [hd] at c3
    clear hd
    go_enter Tryd.func25, Tryd.ntmps25
    go_wp2_with fail
    refine HN.out.mono ?_
    rintro e w1 ⟨v, rfl, m⟩
    have HM := Lib.hid m
    clear m c3
    go_wp2
    go_ret
    exact ⟨v, rfl, HM.out⟩
  · rw [hd] at c3
    clear hd
    go_enter Tryd.func25, Tryd.ntmps25
    go_wp2
    go_ret
    exact ⟨_, rfl, Mine.nil _ _⟩

/-- The name at a place. -/
def nmL (i : Nat) : List Nat := [97 + i % 16, 97 + i / 16 % 16, 97 + i / 256]
def nmI (i : Nat) : ByteArray := strL (nmL i)
theorem nmI_bl {i : Nat} (h : i < 4096) : bl (nmI i) = nmL i := bl_strL (fun x hx => by
  unfold nmL at hx
  simp only [List.mem_cons, List.not_mem_nil, or_false] at hx
  omega)
theorem nmI_size {i : Nat} (h : i < 4096) : (nmI i).size = 3 := by rw [← bl_length, nmI_bl h]; rfl
theorem nmI_ok {i : Nat} (h : i < 4096) : nameB (nmI i) = true := by
  unfold nameB
  rw [nmI_size h, nmI_bl h]
  have hc : ∀ x ∈ nmL i, nameC x = true := fun x hx => by
    unfold nmL at hx
    simp only [List.mem_cons, List.not_mem_nil, or_false] at hx
    unfold nameC
    have h1 : 97 ≤ x := by omega
    have h2 : x ≤ 122 := by omega
    rw [decide_eq_true h1, decide_eq_true h2]
    rfl
  rw [List.all_eq_true.2 hc]
  rfl
theorem nmI_inj {i j : Nat} (hi : i < 4096) (hj : j < 4096) (h : nmI i = nmI j) : i = j := by
  have e : nmL i = nmL j := by rw [← nmI_bl hi, ← nmI_bl hj, h]
  unfold nmL at e
  injection e with e1 e
  injection e with e2 e
  injection e with e3 e
  omega
/-- Files without bytes, of names that are not there. -/
theorem newL_many : ∀ (R : List ByteArray) (M : List (ByteArray × PF)), (∀ s ∈ R, nameB s = true) → R.Pairwise (· ≠ ·) → (∀ s ∈ R, getM M s = none) → Asc M → usedL M = 0 →
    ∃ M', newL 1 (R.map fun s => (s, [])) M = some M' ∧ M'.length = M.length + R.length ∧ Asc M' ∧ ∀ t, t ∉ R → getM M' t = getM M t
  | [], M, _, _, _, hA, _ => ⟨M, rfl, rfl, hA, fun _ _ => rfl⟩
  | s :: R, M, hn, hp, hg, hA, hu => by
    obtain ⟨p1, p2⟩ := List.pairwise_cons.1 hp
    have hgs := hg s (List.mem_cons_self ..)
    have e1 := len_put hA.pair s (⟨[], 0⟩ : PF)
    have e2 := len_del hA.pair s
    have e3 := usedL_put hA.pair s (⟨[], 0⟩ : PF)
    rw [hgs] at e2 e3
    simp only [szM, Option.isSome_none, Bool.false_eq_true, if_false, List.length_nil] at e2 e3
    obtain ⟨M', h1, h2, h3, h4⟩ := newL_many R (putS M s ⟨[], 0⟩) (fun t ht => hn t (List.mem_cons_of_mem _ ht)) p2 (fun t ht => by
      rw [getM_put, if_neg (p1 t ht)]
      exact hg t (List.mem_cons_of_mem _ ht)) (putS_asc hA s _) (by omega)
    refine ⟨M', ?_, ?_, h3, fun t ht => ?_⟩
    · rw [List.map_cons, newL_some, List.length_nil]
      · exact h1
      · rw [hn s (List.mem_cons_self ..), hgs, hu]
        simp
    · rw [h2, e1, List.length_cons]; omega
    · rw [h4 t (fun x => ht (List.mem_cons_of_mem _ x)), getM_put, if_neg (fun e => ht (by rw [← e]; exact List.mem_cons_self ..))]
def namesI (n : Nat) : List ByteArray := (List.range n).map nmI
theorem namesI_succ (n : Nat) : namesI (n + 1) = namesI n ++ [nmI n] := by unfold namesI; rw [List.range_succ, List.map_append]; rfl
theorem namesI_length (n : Nat) : (namesI n).length = n := by unfold namesI; simp
theorem namesI_pair {n : Nat} (h : n ≤ 4096) : (namesI n).Pairwise (· ≠ ·) := by
  unfold namesI
  rw [List.pairwise_map]
  refine List.Pairwise.imp_of_mem (fun {a b} ha hb hab e => ?_) (List.pairwise_lt_range (n := n))
  have h1 := List.mem_range.1 ha
  have h2 := List.mem_range.1 hb
  have := nmI_inj (by omega) (by omega) e
  omega
theorem namesI_mem {n : Nat} {s : ByteArray} (h : n ≤ 4096) (hs : s ∈ namesI n) : s.size = 3 ∧ nameB s = true := by
  unfold namesI at hs
  obtain ⟨i, hi, rfl⟩ := List.mem_map.1 hs
  have := List.mem_range.1 hi
  exact ⟨nmI_size (by omega), nmI_ok (by omega)⟩
theorem newD_many {n : Nat} (h : n ≤ 4096) : ∃ M, newD ((namesI n).map fun s => (s, [])) 1 = some (freshD 1 M) ∧ M.length = n ∧ Asc M ∧ ∀ t : ByteArray, t.size ≠ 3 → getM M t = none := by
  obtain ⟨M, h1, h2, h3, h4⟩ := newL_many (namesI n) [] (fun s hs => (namesI_mem h hs).2) (namesI_pair h) (fun _ _ => rfl) List.Pairwise.nil rfl
  rw [namesI_length] at h2
  refine ⟨M, ?_, by rw [h2]; simp, h3, fun t ht => ?_⟩
  · rw [newD_good (by rw [List.length_map, namesI_length]; omega), h1]; rfl
  · rw [h4 t (fun x => ht (namesI_mem h x).1)]; rfl
/-- A file is created, if there is room for it. -/
theorem create_next {M : List (ByteArray × PF)} {k : Int} {s : ByteArray} (hA : Asc M) (hn : nameB s = true) (hg : getM M s = none) :
    ∃ M' e, createD ⟨M, 1, false, k, -1, 0, -1⟩ s = (⟨M', 1, false, wrap64 (k + 1), -1, 0, -1⟩, e) ∧ Asc M' ∧ (∀ t, t ≠ s → getM M' t = getM M t) ∧
      ((4096 ≤ M.length ∧ e = 6 ∧ M'.length = M.length) ∨ (M.length < 4096 ∧ e = 0 ∧ M'.length = M.length + 1)) := by
  have hb : beginD ⟨M, 1, false, k, -1, 0, -1⟩ = (⟨M, 1, false, wrap64 (k + 1), -1, 0, -1⟩, 0) := by
    unfold beginD countedD
    simp only [Bool.false_eq_true, if_false]
    rw [if_neg (by decide)]
    rfl
  have hc : createD ⟨M, 1, false, k, -1, 0, -1⟩ s = createF s ⟨M, 1, false, wrap64 (k + 1), -1, 0, -1⟩ := by
    unfold createD behindD
    rw [hb, if_pos rfl]
  by_cases h : 4096 ≤ M.length
  · refine ⟨M, 6, ?_, hA, fun _ _ => rfl, .inl ⟨h, rfl, rfl⟩⟩
    rw [hc]
    unfold createF
    rw [if_neg (by rw [hn]; decide), if_neg (by simp only; rw [hg]; decide), if_pos h]
  · have e1 := len_put hA.pair s (⟨[], 0⟩ : PF)
    have e2 := len_del hA.pair s
    rw [hg] at e2
    simp only [Option.isSome_none, Bool.false_eq_true, if_false] at e2
    refine ⟨putS M s ⟨[], 0⟩, 0, ?_, putS_asc hA s _, fun t ht => ?_, .inr ⟨by omega, rfl, by omega⟩⟩
    · rw [hc]
      unfold createF
      rw [if_neg (by rw [hn]; decide), if_neg (by simp only; rw [hg]; decide), if_neg h]
    · rw [getM_put, if_neg (Ne.symm ht)]
def nmX : ByteArray := { data := #[120, 45] }
def nmY : ByteArray := { data := #[121, 45] }
def nmZ : ByteArray := { data := #[122, 45] }
/-- Three are created. -/
theorem create_three {n : Nat} (h1 : 4094 ≤ n) (h2 : n ≤ 4096) : ∃ M0 M1 M2 M3 e f g, newD ((namesI n).map fun s => (s, [])) 1 = some (freshD 1 M0) ∧ createD (freshD 1 M0) nmX = (⟨M1, 1, false, 1, -1, 0, -1⟩, e) ∧
    createD ⟨M1, 1, false, 1, -1, 0, -1⟩ nmY = (⟨M2, 1, false, 2, -1, 0, -1⟩, f) ∧ createD ⟨M2, 1, false, 2, -1, 0, -1⟩ nmZ = (⟨M3, 1, false, 3, -1, 0, -1⟩, g) ∧
    M3.length = 4096 ∧ (e = 6 ∨ e = 0) ∧ (f = 6 ∨ f = 0) ∧ (g = 6 ∨ g = 0) ∧ ([e, f, g].filter (· == (6 : Int))).length = n - 4093 := by
  obtain ⟨M0, a1, a2, a3, a4⟩ := newD_many h2
  obtain ⟨M1, e, b1, b2, b3, b4⟩ := create_next (k := 0) (s := nmX) a3 (by decide +kernel) (a4 nmX (by decide))
  obtain ⟨M2, f, c1, c2, c3, c4⟩ := create_next (k := 1) (s := nmY) b2 (by decide +kernel) (by rw [b3 nmY (by decide)]; exact a4 nmY (by decide))
  obtain ⟨M3, g, d1, d2, d3, d4⟩ := create_next (k := 2) (s := nmZ) c2 (by decide +kernel) (by rw [c3 nmZ (by decide), b3 nmZ (by decide)]; exact a4 nmZ (by decide))
  rw [show wrap64 (0 + 1) = 1 by unfold wrap64; omega] at b1
  rw [show wrap64 (1 + 1) = 2 by unfold wrap64; omega] at c1
  rw [show wrap64 (2 + 1) = 3 by unfold wrap64; omega] at d1
  refine ⟨M0, M1, M2, M3, e, f, g, a1, b1, c1, d1, ?_, ?_, ?_, ?_, ?_⟩
  · omega
  · omega
  · omega
  · omega
  · obtain h | h | h : n = 4094 ∨ n = 4095 ∨ n = 4096 := by omega
    · obtain rfl : e = 0 := by omega
      obtain rfl : f = 0 := by omega
      obtain rfl : g = 6 := by omega
      rw [h]; rfl
    · obtain rfl : e = 0 := by omega
      obtain rfl : f = 6 := by omega
      obtain rfl : g = 6 := by omega
      rw [h]; rfl
    · obtain rfl : e = 6 := by omega
      obtain rfl : f = 6 := by omega
      obtain rfl : g = 6 := by omega
      rw [h]; rfl
end Go.Proofs.YtficodklidaheaaDoor
/- Layer 20: Cost; awake. -/
namespace Go.Proofs.YtficodklidaheaaDoor
open Go.RowKit
attribute [local go_sem ↓] Go.wp_at_zero Go.wp_at_succ

theorem sCost_any (n : Int) (h0 : -9223372036854775808 ≤ n) (h1 : n ≤ 9223372036854775807) (w : World) :
    Calls Tryd.prog 71 #[.int .i64 n] w fun e w' => e = .returned (.int .i64 (sizeN n)) ∧ w = w' := by
  have HS := Lib.hid (size_any n h0 h1 w)
  obtain ⟨z, hz⟩ : ∃ z, z = sizeN n := ⟨_, rfl⟩
  rw [← hz] at HS ⊢
  clear hz h0 h1
  go_enter Tryd.func71, Tryd.ntmps71
  go_wp2_with fail
  refine HS.out.mono ?_
  rintro e w1 ⟨rfl, rfl⟩
  go_wp2
  go_ret
  exact ⟨rfl, rfl⟩
def tmR : List Nat := [116, 111, 111, 32, 109, 117, 99, 104, 32, 114, 111, 111, 109]
def av0 : DA := freshD 25 []
def av1 : DA := (saveD av0 sN [97]).1
def av2 : DA := (saveD av1 sN tmR).1
def av3 : DA := (loadD av2 sN).1
theorem av_new : newD [] 25 = some av0 := by kernel_rfl
theorem av_save : (saveD av0 sN [97]).2 = 0 := by kernel_rfl
theorem av_more : (saveD av1 sN tmR).2 = 12 := by kernel_rfl
theorem av_load : (loadD av2 sN).2 = ([97], true, 0) := by kernel_rfl
theorem av_used : usedA av3 = 10 := by kernel_rfl
theorem DK.keptNew2 {w wN w' : World} {db mb : Nat} {L : List (ByteArray × Fi)} {D : DA} (h : DK w.heap.size wN db mb L D) (hk : Kept (fun _ => False) w wN) (k : Kept (foot db mb L) wN w') : Kept (fun _ => False) w w' := hk.newer k (fun _ e => (h.lt e).2)
theorem nibs_pos2 {w : World} (h : Nibs w) : 0 < w.heap.size := World.block_lt_of_cell? w _ (h 0 (by omega))
theorem row8_fresh2 (w : World) (l : List Nat) (cs : Array Value) (fr : Nat × Nat) (n c : Nat) (hc : cs.toList = b8 l) (hn : l.length = n) (hb : ∀ x ∈ l, x < 256) : Row8 (w.alloc (.cells cs 5 fr)) (.slice (some ⟨w.heap.size, 0, none⟩) n c) l := by
  subst hn
  refine ⟨some ⟨w.heap.size, 0, none⟩, c, rfl, hb, fun j hj => ⟨_, rfl, ?_⟩⟩
  rw [addr_add0, cell_of_row _ _ j _ _ _ (heap_alloc_new w _), ← Array.getElem?_toList, hc]
  exact byV_get hj
theorem sn_str : strN [97] = { data := #[97] } := by kernel_rfl
set_option maxHeartbeats 8000000 in
set_option maxRecDepth 100000 in
theorem awake20_any (w : World) (HN : Nibs w) : Calls Tryd.prog 36 #[] w fun e w' => e = .returned (.bool true) ∧ Kept (fun _ => False) w w' := by
  have hb0 := nibs_pos2 HN
  have HNI := Lib.hid HN
  have HNEW := Lib.hid (dNew_any none 0 0 [] rfl 25 (by decide) w (fun h => absurd h (by simp)) (fun f hf => by cases hf))
  rw [show List.map AF.t [] = [] from rfl, av_new] at HNEW
  clear HN
  go_enter Tryd.func36, Tryd.ntmps36
  go_wp2_with fail
  refine HNEW.out.mono ?_
  rintro e w1 ⟨_, h2⟩
  obtain ⟨db, mb, L, rfl, h1, k1⟩ := h2 _ rfl
  obtain ⟨w2, hw2⟩ : ∃ w2, w2 = w1.alloc (.cells #[.int .u8 97] 5 (1, 2)) := ⟨_, rfl⟩
  have k2 : Kept (fun _ => False) w1 w2 := by rw [hw2]; exact (Kept.refl _ _).alloc _
  have HW2 := Lib.hid hw2
  have HK2 := Lib.hid (k1.trans k2)
  have HD2 := Lib.hid (h1.kept k2 (fun _ _ x => x))
  have HSV := Lib.hid (sSave_any w.heap.size db mb hb0 L av0 sN (by decide) (some ⟨w1.heap.size, 0, none⟩) 1 1 [97] rfl w2 HD2.out (by rw [hw2]; exact row8_fresh2 w1 _ _ _ 1 1 rfl rfl (by decide)) (HNI.out.kept HK2.out) (by decide))
  rw [show sN = { data := #[115] } from rfl] at HSV
  have hcv : (convert 22 22 (.slice (some ⟨w1.heap.size, 0, none⟩) 1 1)).run Tryd.prog (w1.alloc (.cells #[.int .u8 97] 5)) = .ok (.slice (some ⟨w1.heap.size, 0, none⟩) 1 1) (w1.alloc (.cells #[.int .u8 97] 5 (1, 2))) := Go.Joins.run_convert_bytes_const_at w1 22 5 _ _ _ _ (by simp) Tryd.underlying22 Tryd.underlying5
  clear h2 h1 k1 k2 hw2
  go_wp2_with fail
  rw [← HW2.out]
  refine HSV.out.mono ?_
  rintro e w3 ⟨L3, rfl, h3, k3, f3⟩
  rw [show (saveD av0 { data := #[115] } [97]).2 = 0 from av_save]
  have h3' : DK w.heap.size w3 db mb L3 av1 := h3
  have HK3 := Lib.hid (HD2.out.keptNew2 HK2.out k3)
  obtain ⟨w4, hw4⟩ : ∃ w4, w4 = w3.alloc (.cells #[.int .u8 116, .int .u8 111, .int .u8 111, .int .u8 32, .int .u8 109, .int .u8 117, .int .u8 99, .int .u8 104, .int .u8 32, .int .u8 114, .int .u8 111, .int .u8 111, .int .u8 109] 5 (13, 14)) := ⟨_, rfl⟩
  have k4 : Kept (fun _ => False) w3 w4 := by rw [hw4]; exact (Kept.refl _ _).alloc _
  have HW4 := Lib.hid hw4
  have HK4 := Lib.hid (HK3.out.trans k4)
  have HD4 := Lib.hid (h3'.kept k4 (fun _ _ x => x))
  have HSV2 := Lib.hid (sSave_any w.heap.size db mb hb0 L3 av1 sN (by decide) (some ⟨w3.heap.size, 0, none⟩) 13 13 tmR rfl w4 HD4.out (by rw [hw4]; exact row8_fresh2 w3 tmR _ _ 13 13 rfl rfl (by decide)) (HNI.out.kept HK4.out) (by decide))
  rw [show sN = { data := #[115] } from rfl] at HSV2
  have hcv : (convert 22 22 (.slice (some ⟨w3.heap.size, 0, none⟩) 13 13)).run Tryd.prog (w3.alloc (.cells #[.int .u8 116, .int .u8 111, .int .u8 111, .int .u8 32, .int .u8 109, .int .u8 117, .int .u8 99, .int .u8 104, .int .u8 32, .int .u8 114, .int .u8 111, .int .u8 111, .int .u8 109] 5)) = .ok (.slice (some ⟨w3.heap.size, 0, none⟩) 13 13) (w3.alloc (.cells #[.int .u8 116, .int .u8 111, .int .u8 111, .int .u8 32, .int .u8 109, .int .u8 117, .int .u8 99, .int .u8 104, .int .u8 32, .int .u8 114, .int .u8 111, .int .u8 111, .int .u8 109] 5 (13, 14))) := Go.Joins.run_convert_bytes_const_at w3 22 5 _ _ _ _ (by simp) Tryd.underlying22 Tryd.underlying5
  clear h3 h3' k3 f3 hw4 k4
  go_wp2_with fail
  rw [← HW4.out]
  refine HSV2.out.mono ?_
  rintro e w5 ⟨L5, rfl, h5, k5, f5⟩
  rw [show (saveD av1 { data := #[115] } tmR).2 = 12 from av_more]
  have h5' : DK w.heap.size w5 db mb L5 av2 := h5
  have HK5 := Lib.hid (HD4.out.keptNew2 HK4.out k5)
  have HD5 := Lib.hid h5'
  have HLD := Lib.hid (sLoad_any w.heap.size db mb hb0 L5 av2 sN (by decide) w5 h5' (HNI.out.kept HK5.out))
  rw [show sN = { data := #[115] } from rfl] at HLD
  clear h5 h5' k5 f5 hcv
  go_wp2_with fail
  refine HLD.out.mono ?_
  rintro e w6 ⟨L6, a6, c6, he, h6, k6, f6, hr6, _⟩
  rw [show (loadD av2 { data := #[115] }).2 = ([97], true, 0) from av_load] at he hr6
  subst he
  have hcv := conv8 hr6
  rw [sn_str] at hcv
  have HK6 := Lib.hid (HD5.out.keptNew2 HK5.out k6)
  have HUS := Lib.hid (dUsed_any w.heap.size db mb L6 av3 w6 h6)
  rw [av_used] at HUS
  have HCO := Lib.hid (sCost_any 1 (by omega) (by omega) w6)
  rw [show sizeN 1 = 10 from rfl] at HCO
  clear h6 k6 f6 hr6
  dsimp only [List.length_cons, List.length_nil] at hcv ⊢
  go_wp2_with fail
  refine HUS.out.mono ?_
  rintro e w7 ⟨rfl, rfl⟩
  go_wp2_with fail
  refine HCO.out.mono ?_
  rintro e w7 ⟨rfl, rfl⟩
  go_wp2
  go_ret
  exact ⟨rfl, HK6.out⟩
end Go.Proofs.YtficodklidaheaaDoor
/- Layer 25 is awake. -/
namespace Go.Proofs.YtficodklidaheaaDoor
open Go.RowKit
attribute [local go_sem ↓] Go.wp_at_zero Go.wp_at_succ

def sdT : DA := (saveD sd0 nmAck (natL (fixB 3))).1
theorem sd_t3 : takeSh sd0 0 3 5 = (sdT, 3, true, 0) := by
  unfold takeSh
  rw [if_neg (by omega)]
  unfold takeF
  rw [show IntKind.u64.wrap 3 = 3 by kernel_rfl, if_neg (by rw [sd_save _ (natL_fix _)]; simp)]
  rfl
theorem sd_t2 : takeSh sdT 3 2 5 = (sdT, 3, false, 0) := if_pos (by omega)
theorem sd_t6 : takeSh sdT 3 6 5 = (sdT, 3, false, 0) := if_pos (by omega)
theorem sd_left : leftN 3 [(0, 3), (3, 4)] = 1 := by kernel_rfl
/-- What Take leaves is behind what was there. -/
theorem take_kept {W w w' : World} {p db mb : Nat} {L : List (ByteArray × Fi)} {D : DA} (h : DK W.heap.size w db mb L D) (hk : Kept (fun _ => False) W w) (hp : W.heap.size ≤ p) (k : Kept (fun k => k = p ∨ foot db mb L k) w w') : Kept (fun _ => False) W w' :=
  hk.newer k (fun j e => by
    rcases e with e | e
    · omega
    · exact (h.lt e).2)
set_option maxHeartbeats 8000000 in
set_option maxRecDepth 100000 in
theorem awake25_any (w : World) (HN : Nibs w) : Calls Tryd.prog 48 #[] w fun e w' => e = .returned (.bool true) ∧ Kept (fun _ => False) w w' := by
  have hb0 := nibs_pos2 HN
  have HNI := Lib.hid HN
  have HNEW := Lib.hid (dNew_any none 0 0 [] rfl 1000 (by decide) w (fun h => absurd h (by simp)) (fun f hf => by cases hf))
  rw [show List.map AF.t [] = [] from rfl, sd_new] at HNEW
  clear HN
  go_enter Tryd.func48, Tryd.ntmps48
  go_wp2_with fail
  refine HNEW.out.mono ?_
  rintro e w1 ⟨_, h2⟩
  obtain ⟨db, mb, L, rfl, h1, k1⟩ := h2 _ rfl
  have HK1 := Lib.hid k1
  have HD1 := Lib.hid h1
  have HOP := Lib.hid (shOpen_any w.heap.size db mb hb0 L sd0 w1 h1 (HNI.out.kept k1) (fun b e => by rw [← e, sd_load]; simp))
  rw [sd_open] at HOP
  clear h2 h1 k1
  go_wp2_with fail
  refine HOP.out.mono ?_
  rintro e w2 ⟨L2, v, rfl, h2, k2, f2, _, hs⟩
  obtain ⟨p, rfl, hb2, hp2, hn2⟩ := hs 0 rfl
  have hpw : w.heap.size ≤ p := Nat.le_trans HK1.out.size hp2
  have HPW := Lib.hid hpw
  have HD2 := Lib.hid h2
  have HK2 := Lib.hid (HD1.out.keptNew2 HK1.out k2)
  have HT := Lib.hid (shTake_any w.heap.size db mb hb0 L2 sd0 p 0 3 5 w2 h2 hb2 hn2 (HNI.out.kept HK2.out))
  rw [sd_t3] at HT
  clear hs h2 k2 f2 hb2 hp2 hn2 hpw
  go_wp2_with fail
  refine HT.out.mono ?_
  rintro e w3 ⟨L3, rfl, h3, k3, f3, hb3, hn3⟩
  have HD3 := Lib.hid h3
  have HK3 := Lib.hid (take_kept HD2.out HK2.out HPW.out k3)
  have HT2 := Lib.hid (shTake_any w.heap.size db mb hb0 L3 sdT p 3 2 5 w3 h3 hb3 hn3 (HNI.out.kept HK3.out))
  rw [sd_t2] at HT2
  clear h3 k3 f3 hb3 hn3
  go_wp2_with fail
  refine HT2.out.mono ?_
  rintro e w4 ⟨L4, rfl, h4, k4, f4, hb4, hn4⟩
  have HD4 := Lib.hid h4
  have HK4 := Lib.hid (take_kept HD3.out HK3.out HPW.out k4)
  have HT3 := Lib.hid (shTake_any w.heap.size db mb hb0 L4 sdT p 3 6 5 w4 h4 hb4 hn4 (HNI.out.kept HK4.out))
  rw [sd_t6] at HT3
  clear h4 k4 f4 hb4 hn4
  go_wp2_with fail
  refine HT3.out.mono ?_
  rintro e w5 ⟨L5, rfl, h5, k5, f5, hb5, hn5⟩
  have HK5 := Lib.hid (take_kept HD4.out HK4.out HPW.out k5)
  have HAK := Lib.hid (shAck_any p _ 3 w5 hb5)
  obtain ⟨w6, hw6⟩ : ∃ w6, w6 = w5.alloc (.cells #[.int .i64 0, .int .i64 3, .int .i64 3, .int .i64 4] 98) := ⟨_, rfl⟩
  have HW6 := Lib.hid hw6
  have k56 : Kept (fun _ => False) w5 w6 := by rw [hw6]; exact (Kept.refl _ _).alloc _
  have HG : Hid (GAt cellsSp 2 w6 (some ⟨w5.heap.size, 0, none⟩) [(0, 3), (3, 4)]) := Lib.hid (fun _ => ⟨w5.heap.size, 0, rfl, fun i q hi j u hu => by
    rw [hw6, cell_of_row _ _ _ _ _ _ (heap_alloc_new w5 _)]
    match i, j with
    | 0, 0 => simp at hi; subst hi; exact hu
    | 0, 1 => simp at hi; subst hi; exact hu
    | 1, 0 => simp at hi; subst hi; exact hu
    | 1, 1 => simp at hi; subst hi; exact hu
    | 0, j + 2 => simp at hi; subst hi; simp [cellsSp] at hu
    | 1, j + 2 => simp at hi; subst hi; simp [cellsSp] at hu
    | i + 2, _ => simp at hi⟩)
  have HLF := Lib.hid (shLeft_any (some ⟨w5.heap.size, 0, none⟩) 2 [(0, 3), (3, 4)] 2 rfl 3 w6 HG.out (by decide))
  rw [sd_left] at HLF
  have HK6 := Lib.hid (HK5.out.trans k56)
  clear h5 k5 f5 hb5 hn5 hw6 k56
  go_wp2_with fail
  refine HAK.out.mono ?_
  rintro e w7 ⟨rfl, rfl⟩
  go_wp2_with fail
  rw [← HW6.out]
  refine HLF.out.mono ?_
  rintro e w8 ⟨rfl, k8⟩
  have HK8 := Lib.hid (HK6.out.trans k8)
  clear k8
  go_wp2
  go_ret
  exact ⟨rfl, HK8.out⟩
end Go.Proofs.YtficodklidaheaaDoor
/- Layer 25: Due of the program and of the document; SameSpans. -/
namespace Go.Proofs.YtficodklidaheaaDoor
open Go.RowKit
attribute [local go_sem ↓] Go.wp_at_zero Go.wp_at_succ

theorem Tryd.infoSp : (Tryd.prog.info? 98).map (fun i => (i.zero, i.size, i.bytes)) = some (some (.agg #[.int .i64 0, .int .i64 0]), 2, 16) := by kernel_rfl
theorem wpList_mineSp {ops : Array Oper} {rest : List Oper} {o : Oper} {a : Act} {Q : Exit → Act → World → Prop} {w : World} (hgd : o.guard = none) (s x : Operand)
    (ho : o.op = .call { callee := .builtin .append, args := #[s, x], argTypes := #[94, 94] })
    (W : World) (v : Value) (L : List (Int × Int)) (hv : a.eval s = v) (hm : MineG cellsSp 2 98 W w v L)
    (y : Value) (M : List (Int × Int)) (m : Nat) (hmm : M.length = m) (hy : a.eval x = y) (hs : Src Tryd.prog 2 94 y m (flatG cellsSp M) w)
    (hl : L.length + m ≤ 1000000000)
    (h : ∀ v' w', MineG cellsSp 2 98 W w' v' (L ++ M) → Kept (fun k => v.ownBlock = some k) w w' → (v'.ownBlock = v.ownBlock ∨ v'.ownBlock = some w.heap.size) → wpList Tryd.prog ops Q rest (a.put o.dst v') w') : wpList Tryd.prog ops Q (o :: rest) a w := by
  obtain ⟨iI, hiI, hzI0, hzI1, hzI2⟩ := info_parts Tryd.infoSp
  exact wpList_mineG hgd s x ho Tryd.underlying94 hiI hzI0 hzI1 hzI2 rfl W v L hv hm y M m hmm hy hs hl (by omega) h
set_option maxRecDepth 100000 in
set_option maxHeartbeats 4000000 in
theorem shDue_any (p : Nat) (dv : Value) (ack : Int) (ao : Option Addr) (c : Nat) (L : List (Int × Int)) (n : Nat) (hn : n = L.length) (win : Int) (w : World) (hb : BoxAt w p 129 #[dv, .int .i64 ack]) (hat : GAt cellsSp 2 w ao L) (hl : n ≤ 1000000) :
    Calls Tryd.prog 54 #[.pointer (some ⟨p, 0, none⟩), .slice ao n c, .int .i64 win] w fun e w' => ∃ v, e = .returned v ∧ MineG cellsSp 2 98 w w' v (dueL ack win L) := by
  have HA := Lib.hid (And.intro hat (And.intro hn hb))
  have HB := Lib.hid hl
  have HT : Hid (L.take n = L) := Lib.hid (by rw [hn, List.take_length])
  clear hat hn hb hl
  go_enter Tryd.func54, Tryd.ntmps54
  go_wp2
  go_loopg [7, 12] n (fun g s7 s12 wr => ∃ i : Nat, i ≤ n ∧ g = n - i ∧ s12 = .int .i64 (i : Int) ∧ MineG cellsSp 2 98 w wr s7 (dueL ack win (L.take i)))
  case atStart => exact ⟨0, Nat.zero_le _, rfl, rfl, by unfold dueL; simp; exact MineG.nil (Kept.refl _ _)⟩
  case round =>
    obtain ⟨i, hin, rfl, rfl, hm⟩ := hrel
    obtain ⟨pa, pc, hpv⟩ := hm.slice
    subst hpv
    by_cases hd : i < n
    · have hdi : (i : Int) < (n : Int) := by omega
      have HD := Lib.hid hd
      have wi : IntKind.i64.wrap ((i : Int) + 1) = ((i + 1 : Nat) : Int) := by have := HB.out; rw [IntWalk.i64_in _ ⟨by omega, by omega⟩]; omega
      obtain ⟨x, hx⟩ : ∃ x, L[i]? = some x := ⟨_, List.getElem?_eq_getElem (by rw [← HA.out.2.1]; exact hd)⟩
      obtain ⟨gg, oo, hga, hgc⟩ := (HA.out.1.kept hm.kept) (by rw [← HA.out.2.1]; omega)
      subst hga
      have g0 := hgc i x hx 0 (.int .i64 x.1) rfl
      have g1 := hgc i x hx 1 (.int .i64 x.2) rfl
      rw [Nat.add_zero] at g0
      have HS := Lib.hid (dueL_succ (ack := ack) (win := win) hx)
      have HST := Lib.hid (dueL_stop (ack := ack) (win := win) L i)
      have hpl := dueL_len ack win L i
      obtain ⟨X, hX⟩ : ∃ X, X = dueL ack win (L.take i) := ⟨_, rfl⟩
      rw [← hX] at hm HS HST hpl ⊢
      obtain ⟨m, hmm⟩ : ∃ m, m = X.length := ⟨_, rfl⟩
      rw [← hmm] at hm HS HST hpl ⊢
      have HMM := Lib.hid (And.intro hmm (show m ≤ 1000000 by have := HB.out; omega))
      obtain ⟨x1, x2⟩ := x
      dsimp only at g0 g1 HS
      obtain ⟨q, hq⟩ : ∃ q, q = wr.heap.size := ⟨_, rfl⟩
      obtain ⟨wa, hwa⟩ : ∃ wa, wa = wr.alloc (.cells #[.int .i64 x1, .int .i64 x2] 98) := ⟨_, rfl⟩
      have ka : Kept (fun _ => False) wr wa := by rw [hwa]; exact (Kept.refl _ _).alloc _
      have d0 : wa.cell? ⟨q, 0, none⟩ = some (.int .i64 x1) := by rw [hwa, hq, cell_of_row _ _ 0 _ _ _ (heap_alloc_new wr _)]; rfl
      have d1 : wa.cell? ⟨q, 1, none⟩ = some (.int .i64 x2) := by rw [hwa, hq, cell_of_row _ _ 1 _ _ _ (heap_alloc_new wr _)]; rfl
      have HM := Lib.hid (hm.on ka)
      have HBX := Lib.hid (HA.out.2.2.kept (hm.on ka).kept (fun x => x))
      have b1 : wa.cell? ⟨p, 1, none⟩ = some (.int .i64 ack) := HBX.out.cell rfl
      have HWA := Lib.hid (And.intro hwa hq)
      clear hgc hx hmm hX hd hq hwa ka hin hm hpl
      go_upto_region 5 with fail
      rw [← HWA.out.1, ← HWA.out.2]
      clear g0 g1
      by_cases hw : win ≤ (m : Int)
      · have q2 : decide (win ≤ (m : Int)) = true := decide_eq_true hw
        have HX : Hid (X = dueL ack win L) := Lib.hid (HST.out hw).symm
        clear hw
        go_wp2
        go_ret
        exact ⟨_, rfl, by rw [← HX.out]; exact HM.out⟩
      · have q2 : decide (win ≤ (m : Int)) = false := decide_eq_false hw
        by_cases he : ack < x2
        · have q1 : decide (ack < x2) = true := decide_eq_true he
          have HSS : Hid (dueL ack win (L.take (i + 1)) = X ++ [(x1, x2)]) := Lib.hid (by rw [HS.out, if_pos ⟨he, by omega⟩])
          have HMA : Hid (MineG cellsSp 2 98 w ((wa.drew).alloc (.cells #[.int .i64 x1, .int .i64 x2] 98)) (.slice pa m pc) X) := Lib.hid (HM.out.on (((Kept.refl _ _).drew).alloc _))
          have HSR := Lib.hid (show Src Tryd.prog 2 94 (.slice (some ⟨wa.drew.heap.size, 0, none⟩) 1 1) 1 (flatG cellsSp [((x1, x2) : Int × Int)]) (wa.drew.alloc (.cells #[.int .i64 x1, .int .i64 x2] 98)) by
            have := src_oneG (P := Tryd.prog) cfSp Tryd.underlying94 wa.drew ((x1, x2) : Int × Int)
            rw [flatG_one']
            exact this)
          clear hw he
          go_upto_region 6 with fail
          clear q2
          go_region
          have e0 : wa.drew.cell? ⟨q, 0, none⟩ = some (.int .i64 x1) := d0
          have e1 : wa.drew.cell? ⟨q, 1, none⟩ = some (.int .i64 x2) := d1
          clear d0 d1 b1
          go_wp2_with (at_builtin; refine wpList_mineSp rfl (.tmp 27) (.tmp 29) rfl w _ X rfl HMA.out _ [((x1, x2) : Int × Int)] 1 rfl rfl HSR.out (by have := HMM.out; omega) ?_)
          intro v' w8 hm8 _ _
          rw [← HSS.out] at hm8
          have HM8 := Lib.hid hm8
          clear hm8 e0 e1
          go_wp2
          go_roundg (n - (i + 1))
          case measure => have := HD.out; omega
          case rel => exact ⟨i + 1, HD.out, rfl, rfl, HM8.out⟩
        · have q1 : decide (ack < x2) = false := decide_eq_false he
          have HSS : Hid (dueL ack win (L.take (i + 1)) = X) := Lib.hid (by rw [HS.out, if_neg (fun x => he x.1), List.append_nil])
          have HM8 : Hid (MineG cellsSp 2 98 w wa.drew (.slice pa m pc) X) := Lib.hid (HM.out.on (Kept.refl _ _).drew)
          clear hw he
          go_upto_region 6 with fail
          clear q2
          go_region
          go_wp2
          go_roundg (n - (i + 1))
          case measure => have := HD.out; omega
          case rel => exact ⟨i + 1, HD.out, rfl, rfl, by rw [HSS.out]; exact HM8.out⟩
    · have hdi : ¬ (i : Int) < (n : Int) := by omega
      have hdi' : decide (i < n) = false := decide_eq_false hd
      obtain rfl : i = n := by omega
      rw [HT.out] at hm ⊢
      have HM := Lib.hid hm
      clear hm hd
      go_wp2
      go_ret
      exact ⟨_, rfl, HM.out⟩
set_option maxRecDepth 100000 in
set_option maxHeartbeats 4000000 in
theorem refDue_any (ack : Int) (ao : Option Addr) (c : Nat) (L : List (Int × Int)) (n : Nat) (hn : n = L.length) (win : Int) (w : World) (hat : GAt cellsSp 2 w ao L) (hl : n ≤ 1000000) :
    Calls Tryd.prog 55 #[.slice ao n c, .int .i64 ack, .int .i64 win] w fun e w' => ∃ v, e = .returned v ∧ MineG cellsSp 2 98 w w' v (dueL ack win L) := by
  have HA := Lib.hid (And.intro hat hn)
  have HB := Lib.hid hl
  have HT : Hid (L.take n = L) := Lib.hid (by rw [hn, List.take_length])
  clear hat hn hl
  go_enter Tryd.func55, Tryd.ntmps55
  go_wp2
  go_loopg [7, 8] n (fun g s7 s8 wr => ∃ i : Nat, i ≤ n ∧ g = n - i ∧ s8 = .int .i64 (i : Int) ∧ MineG cellsSp 2 98 w wr s7 (dueL ack win (L.take i)))
  case atStart => exact ⟨0, Nat.zero_le _, rfl, rfl, by unfold dueL; simp; exact MineG.nil (Kept.refl _ _)⟩
  case round =>
    obtain ⟨i, hin, rfl, rfl, hm⟩ := hrel
    obtain ⟨pa, pc, hpv⟩ := hm.slice
    subst hpv
    by_cases hd : i < n
    · have hdi : (i : Int) < (n : Int) := by omega
      have hdi0 : (0 : Int) ≤ (i : Int) := by omega
      have HD := Lib.hid hd
      have wi : IntKind.i64.wrap ((i : Int) + 1) = ((i + 1 : Nat) : Int) := by have := HB.out; rw [IntWalk.i64_in _ ⟨by omega, by omega⟩]; omega
      obtain ⟨x, hx⟩ : ∃ x, L[i]? = some x := ⟨_, List.getElem?_eq_getElem (by rw [← HA.out.2]; exact hd)⟩
      obtain ⟨gg, oo, hga, hgc⟩ := (HA.out.1.kept hm.kept) (by rw [← HA.out.2]; omega)
      subst hga
      have g0 := hgc i x hx 0 (.int .i64 x.1) rfl
      have g1 := hgc i x hx 1 (.int .i64 x.2) rfl
      rw [Nat.add_zero] at g0
      have HS := Lib.hid (dueL_succ (ack := ack) (win := win) hx)
      have hpl := dueL_len ack win L i
      obtain ⟨X, hX⟩ : ∃ X, X = dueL ack win (L.take i) := ⟨_, rfl⟩
      rw [← hX] at hm HS hpl ⊢
      obtain ⟨m, hmm⟩ : ∃ m, m = X.length := ⟨_, rfl⟩
      rw [← hmm] at hm HS hpl ⊢
      have HMM := Lib.hid (And.intro hmm (show m ≤ 1000000 by have := HB.out; omega))
      obtain ⟨x1, x2⟩ := x
      dsimp only at g0 g1 HS
      have HM := Lib.hid hm
      by_cases he : ack < x2
      · have q1 : decide (ack < x2) = true := decide_eq_true he
        by_cases hw : (m : Int) < win
        · have q2 : decide ((m : Int) < win) = true := decide_eq_true hw
          have HSS : Hid (dueL ack win (L.take (i + 1)) = X ++ [(x1, x2)]) := Lib.hid (by rw [HS.out, if_pos ⟨he, hw⟩])
          have HMA : Hid (MineG cellsSp 2 98 w (wr.alloc (.cells #[.int .i64 x1, .int .i64 x2] 98)) (.slice pa m pc) X) := Lib.hid (hm.on ((Kept.refl _ _).alloc _))
          have HSR := Lib.hid (show Src Tryd.prog 2 94 (.slice (some ⟨wr.heap.size, 0, none⟩) 1 1) 1 (flatG cellsSp [((x1, x2) : Int × Int)]) (wr.alloc (.cells #[.int .i64 x1, .int .i64 x2] 98)) by
            have := src_oneG (P := Tryd.prog) cfSp Tryd.underlying94 wr ((x1, x2) : Int × Int)
            rw [flatG_one']
            exact this)
          clear hgc hx hmm hX hd hin hm hpl hw he
          go_wp2_with (at_builtin; refine wpList_mineSp rfl (.tmp 28) (.tmp 33) rfl w _ X rfl HMA.out _ [((x1, x2) : Int × Int)] 1 rfl rfl HSR.out (by have := HMM.out; omega) ?_)
          intro v' w8 hm8 _ _
          rw [← HSS.out] at hm8
          have HM8 := Lib.hid hm8
          clear hm8
          go_wp2
          go_roundg (n - (i + 1))
          case measure => have := HD.out; omega
          case rel => exact ⟨i + 1, HD.out, rfl, rfl, HM8.out⟩
        · have q2 : decide ((m : Int) < win) = false := decide_eq_false hw
          have HSS : Hid (dueL ack win (L.take (i + 1)) = X) := Lib.hid (by rw [HS.out, if_neg (fun x => hw x.2), List.append_nil])
          clear hgc hx hmm hX hd hin hm hpl hw he
          go_wp2
          go_roundg (n - (i + 1))
          case measure => have := HD.out; omega
          case rel => exact ⟨i + 1, HD.out, rfl, rfl, by rw [HSS.out]; exact HM.out⟩
      · have q1 : decide (ack < x2) = false := decide_eq_false he
        have HSS : Hid (dueL ack win (L.take (i + 1)) = X) := Lib.hid (by rw [HS.out, if_neg (fun x => he x.1), List.append_nil])
        clear hgc hx hmm hX hd hin hm hpl he
        go_wp2
        go_roundg (n - (i + 1))
        case measure => have := HD.out; omega
        case rel => exact ⟨i + 1, HD.out, rfl, rfl, by rw [HSS.out]; exact HM.out⟩
    · have hdi : ¬ (i : Int) < (n : Int) := by omega
      have hdi' : decide (i < n) = false := decide_eq_false hd
      obtain rfl : i = n := by omega
      rw [HT.out] at hm ⊢
      have HM := Lib.hid hm
      clear hm hd
      go_wp2
      go_ret
      exact ⟨_, rfl, HM.out⟩
set_option maxRecDepth 100000 in
set_option maxHeartbeats 4000000 in
theorem refSameSpans_any (ao bo : Option Addr) (c d : Nat) (L : List (Int × Int)) (n : Nat) (hn : n = L.length) (w : World) (ha : GAt cellsSp 2 w ao L) (hb : GAt cellsSp 2 w bo L) (hl : n ≤ 1000000) :
    Calls Tryd.prog 53 #[.slice ao n c, .slice bo n d] w fun e w' => e = .returned (.bool true) ∧ Kept (fun _ => False) w w' := by
  have HA := Lib.hid (And.intro ha (And.intro hb hn))
  have HB := Lib.hid hl
  clear ha hb hn hl
  go_enter Tryd.func53, Tryd.ntmps53
  go_wp2
  go_loopg [5] n (fun g s5 wr => ∃ i : Nat, i ≤ n ∧ g = n - i ∧ s5 = .int .i64 (i : Int) ∧ Kept (fun _ => False) w wr)
  case atStart => exact ⟨0, Nat.zero_le _, rfl, rfl, Kept.refl _ _⟩
  case round =>
    obtain ⟨i, hin, rfl, rfl, hk⟩ := hrel
    by_cases hd : i < n
    · have hdi : (i : Int) < (n : Int) := by omega
      have hdi0 : (0 : Int) ≤ (i : Int) := by omega
      have HD := Lib.hid hd
      have wi : IntKind.i64.wrap ((i : Int) + 1) = ((i + 1 : Nat) : Int) := by have := HB.out; rw [IntWalk.i64_in _ ⟨by omega, by omega⟩]; omega
      obtain ⟨x, hx⟩ : ∃ x, L[i]? = some x := ⟨_, List.getElem?_eq_getElem (by rw [← HA.out.2.2]; exact hd)⟩
      obtain ⟨gg, oo, hga, hgc⟩ := (HA.out.1.kept hk) (by rw [← HA.out.2.2]; omega)
      obtain ⟨gb, ob, hgb, hgd⟩ := (HA.out.2.1.kept hk) (by rw [← HA.out.2.2]; omega)
      subst hga hgb
      have g0 := hgc i x hx 0 (.int .i64 x.1) rfl
      have g1 := hgc i x hx 1 (.int .i64 x.2) rfl
      have k0 := hgd i x hx 0 (.int .i64 x.1) rfl
      have k1 := hgd i x hx 1 (.int .i64 x.2) rfl
      rw [Nat.add_zero] at g0 k0
      obtain ⟨x1, x2⟩ := x
      dsimp only at g0 g1 k0 k1
      have HK : Hid (Kept (fun _ => False) w wr.drew) := Lib.hid hk.drew
      clear hgc hgd hx hd hin hk
      go_upto_region 6 with fail
      go_region
      go_wp2
      go_roundg (n - (i + 1))
      case measure => have := HD.out; omega
      case rel => exact ⟨i + 1, HD.out, rfl, rfl, HK.out⟩
    · have hdi : ¬ (i : Int) < (n : Int) := by omega
      have hdi' : decide (i < n) = false := decide_eq_false hd
      have HK := Lib.hid hk
      clear hk hd
      go_wp2
      go_ret
      exact ⟨rfl, HK.out⟩
end Go.Proofs.YtficodklidaheaaDoor
