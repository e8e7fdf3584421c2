/- Layer 18: the walk of DiskMost. -/
import Derived.Test.YtdhfalcjohfdkaaSL
import Derived.Test.YtdhfalcjohfdkaaSK
namespace Go.Proofs.Ytdhfalcjohfdkaa
open Go.RowKit
attribute [local go_sem ↓] Go.wp_at_zero Go.wp_at_succ

theorem Try.infoFile : (Try.prog.info? 50).map (fun i => (i.zero, i.size, i.bytes)) = some (some (.agg #[.string ByteArray.empty, .slice none 0 0]), 2, 40) := by kernel_rfl
def af (s : ByteArray) : AF := ⟨s, none, 0, []⟩
theorem af_ok (w : World) (s : ByteArray) (h : s.size ≤ maxLen) : (af s).Ok w := ⟨⟨none, 0, rfl, fun _ => rfl, fun a ha => by cases ha⟩, (by intro x hx; cases hx), h, Nat.le_refl _⟩
set_option maxHeartbeats 8000000 in
set_option maxRecDepth 100000 in
theorem diskMost_walk (more : Int) (W : World) (hm : -9223372036854775808 ≤ more ∧ more ≤ 9223372036854775807) :
    Calls Try.prog 5 #[.int .i64 more] W fun e w' => e = .returned (.bool true) ∧ Kept (fun _ => False) W w' := by
  have HA := Lib.hid (awake18_any W)
  by_cases h0 : more < 0
  · have q1 : decide (more < 0) = true := decide_eq_true h0
    clear hm
    go_enter Try.func5, Try.ntmps5
    go_wp2_with fail
    refine HA.out.mono ?_
    rintro e w1 ⟨rfl, k1⟩
    have HK1 := Lib.hid k1
    clear k1
    go_wp2
    go_ret
    exact ⟨rfl, HK1.out⟩
  have q1 : decide (more < 0) = false := decide_eq_false h0
  by_cases h2 : 2 < more
  · have q2 : decide (2 < more) = true := decide_eq_true h2
    clear hm
    go_enter Try.func5, Try.ntmps5
    go_wp2_with fail
    refine HA.out.mono ?_
    rintro e w1 ⟨rfl, k1⟩
    have HK1 := Lib.hid k1
    clear k1
    go_wp2
    go_ret
    exact ⟨rfl, HK1.out⟩
  have q2 : decide (2 < more) = false := decide_eq_false h2
  obtain ⟨n, hn, hn1, hn2⟩ : ∃ n : Nat, 4094 + more = (n : Int) ∧ 4094 ≤ n ∧ n ≤ 4096 := ⟨(4094 + more).toNat, by omega, by omega, by omega⟩
  have wn : IntKind.i64.wrap (4094 + more) = (n : Int) := by rw [IntWalk.i64_in _ ⟨by omega, by omega⟩, hn]
  obtain ⟨iP, hiP, eP⟩ := Option.map_eq_some_iff.1 Try.infoFile
  obtain ⟨hzP0, hzP1, hzP2⟩ : iP.zero = some (.agg #[.string ByteArray.empty, .slice none 0 0]) ∧ iP.size = 2 ∧ iP.bytes = 40 := by
    injection eP with e1 e2
    injection e2 with e2 e3
    exact ⟨e1, e2, e3⟩
  have HN := Lib.hid (And.intro hn (And.intro hn1 hn2))
  obtain ⟨M0, M1, M2, M3, e1, e2, e3, t1, t2, t3, t4, t5, t6, t7, t8, t9⟩ := create_three hn1 hn2
  have HT := Lib.hid (And.intro t1 (And.intro t2 (And.intro t3 t4)))
  have HT5 := Lib.hid t5
  have HE := Lib.hid (And.intro t6 (And.intro t7 (And.intro t8 t9)))
  have HQ := Lib.hid (And.intro hiP (And.intro hzP0 (And.intro hzP1 hzP2)))
  clear hm h0 h2 hn hn1 hn2 t1 t2 t3 t4 t5 t6 t7 t8 t9 hiP eP hzP0 hzP1 hzP2
  go_enter Try.func5, Try.ntmps5
  go_wp2_with fail
  refine HA.out.mono ?_
  rintro e w1 ⟨rfl, k1⟩
  have HK1 := Lib.hid k1
  clear k1
  go_wp2
  go_loopg [3, 4] n (fun g s3 s4 wr => ∃ i : Nat, i ≤ n ∧ g = n - i ∧ s4 = .int .i64 (i : Int) ∧ ∃ a c, s3 = .slice a i c ∧ MineG cellsA 2 50 W wr (.slice a i c) ((namesI i).map af))
  case atStart => exact ⟨0, Nat.zero_le _, rfl, rfl, none, 0, rfl, MineG.nil HK1.out⟩
  case round =>
    obtain ⟨i, hin, rfl, rfl, a, c, rfl, hr⟩ := hrel
    by_cases hd : i < n
    · have hdi : (i : Int) < (n : Int) := by omega
      have HI := Lib.hid hd
      have hi4 : i < 4096 := by have := HN.out; omega
      obtain ⟨wa, hwa⟩ : ∃ wa, wa = wr.alloc (.cells #[.int .u8 (97 + (i : Int) % 16), .int .u8 (97 + (i : Int) / 16 % 16), .int .u8 (97 + (i : Int) / 256)] 5) := ⟨_, rfl⟩
      have hcv : (convert 39 9 (.slice (some ⟨wr.heap.size, 0, none⟩) 3 3)).run Try.prog wa = .ok (.string (nmI i)) wa := run_strL (l := nmL i) (by
        rw [hwa]
        refine slAt_fresh wr _ _ _ _ 3 3 ?_ rfl
        unfold byV nmL
        simp only [List.map_cons, List.map_nil]
        push_cast
        rfl) 39 5 9 Try.underlying39 Try.underlying5 Try.underlying9
      rw [hwa] at hcv
      obtain ⟨x, hx⟩ : ∃ x, x = nmI i := ⟨_, rfl⟩
      rw [← hx] at hcv
      have HX := Lib.hid hx
      have kw : Kept (fun _ => False) wr wa := by rw [hwa]; exact (Kept.refl _ _).alloc _
      have HMA := Lib.hid (hr.on kw)
      have HWA := Lib.hid hwa
      have HML : Hid (((namesI i).map af).length = i) := Lib.hid (by rw [List.length_map, namesI_length])
      have wi : IntKind.i64.wrap ((i : Int) + 1) = ((i + 1 : Nat) : Int) := by rw [IntWalk.i64_in _ ⟨by omega, by omega⟩]; omega
      have HWI := Lib.hid wi
      clear hwa hx kw hr wi
      obtain ⟨hiP, hzP0, hzP1, hzP2⟩ := HQ.out
      go_wp2_with (at_builtin; refine wpList_mineG (c := cellsA) rfl (.tmp 26) (.tmp 43) rfl Try.underlying22 hiP hzP0 hzP1 hzP2 rfl W (.slice a i c) ((namesI i).map af) rfl ?own _ [af x] 1 rfl rfl ?src (by rw [HML.out]; omega) (by omega) ?_)
      case own => rw [← HWA.out]; exact HMA.out.on ((Kept.refl _ _).alloc _)
      case src =>
        rw [flatG_one']
        have h := src_oneG cfA Try.underlying22 wa (af x)
        rw [HWA.out, show (wr.alloc (.cells #[.int .u8 (97 + (i : Int) % 16), .int .u8 (97 + (i : Int) / 16 % 16), .int .u8 (97 + (i : Int) / 256)] 5)).heap.size = wr.heap.size + 1 by simp] at h
        exact h
      intro v' w6 hm6 hk6 _
      obtain ⟨a6, c6, rfl⟩ := hm6.slice
      rw [show List.map af (namesI i) ++ [af x] = List.map af (namesI (i + 1)) by rw [namesI_succ, List.map_append, HX.out]; rfl, List.length_map, namesI_length] at hm6
      rw [show (List.map af (namesI i) ++ [af x]).length = i + 1 by rw [List.length_append, HML.out]; rfl]
      have HM6 := Lib.hid hm6
      have wi := HWI.out
      obtain ⟨j, hj⟩ : ∃ j, j = i + 1 := ⟨_, rfl⟩
      rw [← hj] at wi HM6 ⊢
      have HJ := Lib.hid hj
      clear hm6 hk6 hj hcv hiP hzP0 hzP1 hzP2
      go_wp2
      go_roundg (n - j)
      case measure => have := HJ.out; omega
      case rel => exact ⟨j, by have := HJ.out; omega, rfl, rfl, a6, c6, rfl, HM6.out⟩
    · obtain rfl : i = n := by omega
      have hdi : ¬ (i : Int) < (i : Int) := by omega
      have hdi' : decide (i < i) = false := decide_eq_false hd
      have HK := Lib.hid hr.kept
      have HMR := Lib.hid hr
      have HNEW := Lib.hid (dNew_any a i c ((namesI i).map af) (by rw [List.length_map, namesI_length]) 1 (by have := HN.out; omega) wr (hr.at_ cfA) (fun f hf => by
        obtain ⟨s, hs, rfl⟩ := List.mem_map.1 hf
        have h := (namesI_mem (by have := HN.out; omega) hs).1
        exact af_ok wr s (by rw [h]; unfold maxLen; omega)))
      rw [show ((namesI i).map af).map AF.t = (namesI i).map fun s => (s, []) by rw [List.map_map]; rfl, HT.out.1] at HNEW
      clear hr hin
      go_wp2_with fail
      refine HNEW.out.mono ?_
      rintro e w2 ⟨_, h2⟩
      obtain ⟨db, mb, L, rfl, h3, k3⟩ := h2 _ rfl
      have HK2 := Lib.hid k3
      have HC := Lib.hid (dCreate_any wr.heap.size db mb L _ nmX (by unfold maxLen; decide) w2 h3)
      rw [HT.out.2.1, show nmX = { data := #[120, 45] } from rfl] at HC
      have HXF := Lib.hid (fun k hk => (h3.lt (k := k) hk).2)
      clear h2 h3 k3
      go_wp2_with fail
      refine HC.out.mono ?_
      rintro e w3 ⟨L3, rfl, h3, k3, f3⟩
      have HK3 := Lib.hid (HK2.out.newer k3 HXF.out)
      have HC2 := Lib.hid (dCreate_any wr.heap.size db mb L3 _ nmY (by unfold maxLen; decide) w3 h3)
      rw [HT.out.2.2.1, show nmY = { data := #[121, 45] } from rfl] at HC2
      have HXF2 := Lib.hid (fun k hk => (h3.lt (k := k) hk).2)
      clear h3 k3 f3
      go_wp2_with fail
      refine HC2.out.mono ?_
      rintro e w4 ⟨L4, rfl, h3, k3, f3⟩
      have HK4 := Lib.hid (HK3.out.newer k3 HXF2.out)
      have HC3 := Lib.hid (dCreate_any wr.heap.size db mb L4 _ nmZ (by unfold maxLen; decide) w4 h3)
      rw [HT.out.2.2.2, show nmZ = { data := #[122, 45] } from rfl] at HC3
      have HXF3 := Lib.hid (fun k hk => (h3.lt (k := k) hk).2)
      clear h3 k3 f3
      go_wp2_with fail
      refine HC3.out.mono ?_
      rintro e w5 ⟨L5, rfl, h5, k5, f5⟩
      have HK5 := Lib.hid (HK4.out.newer k5 HXF3.out)
      obtain ⟨B, hB⟩ : ∃ B, B = w5.heap.size := ⟨_, rfl⟩
      obtain ⟨w6, hw6⟩ : ∃ w6, w6 = w5.alloc (.cells #[.int .i64 e1, .int .i64 e2, .int .i64 e3] 33) := ⟨_, rfl⟩
      have k56 : Kept (fun _ => False) w5 w6 := by rw [hw6]; exact (Kept.refl _ _).alloc _
      have HW6 := Lib.hid (And.intro hw6 hB)
      have hbx : BoxAt w6 B 33 #[.int .i64 e1, .int .i64 e2, .int .i64 e3] := by rw [hw6, hB]; exact BoxAt.new w5 _ _
      have HBX := Lib.hid hbx
      have HD6 := Lib.hid (h5.kept k56 (fun _ _ x => x))
      have HK6 := Lib.hid (HK5.out.trans k56)
      clear h5 k5 f5 hB hw6 k56 hbx
      dsimp only
      go_wp2
      rw [← HW6.out.1, ← HW6.out.2]
      go_loopg [9, 60] 3 (fun g s9 s60 wc => w6 = wc ∧ ∃ k : Nat, k ≤ 3 ∧ g = 3 - k ∧ s60 = .int .i64 (k : Int) ∧ s9 = .int .i64 ((([e1, e2, e3].take k).filter (· == (6 : Int))).length : Int))
      case atStart => exact ⟨rfl, 0, Nat.zero_le _, rfl, rfl, rfl⟩
      case round =>
        obtain ⟨rfl, k, hk3, rfl, rfl, rfl⟩ := hrel
        by_cases hk : k < 3
        · obtain ⟨x, hx⟩ : ∃ x, [e1, e2, e3][k]? = some x := ⟨_, List.getElem?_eq_getElem hk⟩
          have hc : w6.cell? ⟨B, k, none⟩ = some (.int .i64 x) := HBX.out.cell (by
            obtain rfl | rfl | rfl : k = 0 ∨ k = 1 ∨ k = 2 := by omega
            · injection hx with hx; rw [← hx]; rfl
            · injection hx with hx; rw [← hx]; rfl
            · injection hx with hx; rw [← hx]; rfl)
          have hx6 : x = 6 ∨ x = 0 := by
            have := List.mem_of_getElem? hx
            simp only [List.mem_cons, List.not_mem_nil, or_false] at this
            rcases this with rfl | rfl | rfl
            · exact HE.out.1
            · exact HE.out.2.1
            · exact HE.out.2.2.1
          have hsx : (([e1, e2, e3].take (k + 1)).filter (· == (6 : Int))).length = (([e1, e2, e3].take k).filter (· == (6 : Int))).length + (if x = 6 then 1 else 0) := by
            rw [List.take_add_one, hx, List.filter_append, List.length_append]
            rcases hx6 with rfl | rfl <;> rfl
          have hcn : (([e1, e2, e3].take k).filter (· == (6 : Int))).length ≤ 3 := Nat.le_trans (List.length_filter_le _ _) (by rw [List.length_take]; simp; omega)
          obtain ⟨cn, hcn2⟩ : ∃ cn, cn = (([e1, e2, e3].take k).filter (· == (6 : Int))).length := ⟨_, rfl⟩
          rw [← hcn2] at hsx hcn ⊢
          have HSX := Lib.hid hsx
          have HKX := Lib.hid hk
          have hki : (k : Int) < 3 := by omega
          have wk : IntKind.i64.wrap ((k : Int) + 1) = ((k + 1 : Nat) : Int) := by rw [IntWalk.i64_in _ ⟨by omega, by omega⟩]; omega
          have wc : IntKind.i64.wrap ((cn : Int) + 1) = ((cn + 1 : Nat) : Int) := by rw [IntWalk.i64_in _ ⟨by omega, by omega⟩]; omega
          clear hx hsx hcn2 hk
          rcases hx6 with rfl | rfl
          · go_wp2
            go_roundg (3 - (k + 1))
            case measure => have := HKX.out; omega
            case rel =>
              refine ⟨rfl, k + 1, by have := HKX.out; omega, rfl, rfl, ?_⟩
              rw [HSX.out]; rfl
          · go_wp2
            go_roundg (3 - (k + 1))
            case measure => have := HKX.out; omega
            case rel =>
              refine ⟨rfl, k + 1, by have := HKX.out; omega, rfl, rfl, ?_⟩
              rw [HSX.out]; rfl
        · obtain rfl : k = 3 := by omega
          rw [show (([e1, e2, e3].take 3).filter (· == (6 : Int))).length = i - 4093 from HE.out.2.2.2]
          obtain ⟨cn, hcn⟩ : ∃ cn, cn = i - 4093 := ⟨_, rfl⟩
          rw [← hcn]
          have hcm : (cn : Int) = more + 1 := by have := HN.out; omega
          have wm : IntKind.i64.wrap (more + 1) = (cn : Int) := by have := HN.out; rw [hcm, IntWalk.i64_in _ ⟨by omega, by omega⟩]
          have HB := Lib.hid (fun (k : Nat) (e : (Value.slice a i c).ownBlock = some k) => ownsRow_lt HMR.out.own e)
          have HM6 := Lib.hid (HMR.out.on HK6.out)
          have HML : Hid (((namesI i).map af).length = i) := Lib.hid (by rw [List.length_map, namesI_length])
          obtain ⟨hiP, hzP0, hzP1, hzP2⟩ := HQ.out
          have HIN := Lib.hid (show i ≤ 4096 by have := HN.out; omega)
          have HIN4 := Lib.hid (show 4094 ≤ i by have := HN.out; omega)
          clear hcn hcm hk hk3
          obtain ⟨w7, hw7⟩ : ∃ w7, w7 = w6.alloc (.cells #[.string { data := #[120] }, .slice none 0 0, .string { data := #[121] }, .slice none 0 0, .string { data := #[122] }, .slice none 0 0] 50) := ⟨_, rfl⟩
          have k67 : Kept (fun _ => False) w6 w7 := by rw [hw7]; exact (Kept.refl _ _).alloc _
          have HK7 := Lib.hid (HK6.out.trans k67)
          have HD7 := Lib.hid (HD6.out.kept k67 (fun _ _ x => x))
          have HW7 := Lib.hid hw7
          clear hw7 k67
          go_wp2_with (at_builtin; refine wpList_mineG (c := cellsA) rfl (.tmp 71) (.tmp 75) rfl Try.underlying22 hiP hzP0 hzP1 hzP2 rfl W (.slice a i c) ((namesI i).map af) rfl ?own _ [af { data := #[120] }, af { data := #[121] }, af { data := #[122] }] 3 rfl rfl ?src (by rw [HML.out]; have := HIN.out; omega) (by omega) ?_)
          case own => rw [← HW7.out]; exact HMR.out.on HK7.out
          case src => exact Src.ofSlice _ Try.underlying22 _ 3 3 _ rfl (World.news_of_block (fr := (0, 0)) (heap_alloc_new w6 _)) (flatG_all cfA _)
          intro v' w8 hm8 hk8 _
          obtain ⟨a8, c8, rfl⟩ := hm8.slice
          rw [← HW7.out] at hk8
          have hl8 : (List.map af (namesI i) ++ [af { data := #[120] }, af { data := #[121] }, af { data := #[122] }]).length = i + 3 := by rw [List.length_append, HML.out]; rfl
          rw [hl8] at hm8 ⊢
          have hd8 := HD7.out.kept hk8 (fun j e x => by
            have h1 := (HB.out j x).1
            have h2 := (HD7.out.lt e).2
            omega)
          have HNM := Lib.hid (dNames_any wr.heap.size db mb L5 _ w8 hd8)
          rw [show namesUp (⟨M3, 1, false, 3, -1, 0, -1⟩ : DA) = namesA M3 from rfl] at HNM
          have HM8 := Lib.hid hm8
          have HL8 := Lib.hid hl8
          have HN2 := Lib.hid (fun w (k : Kept (fun _ => False) w8 w) => dNew_any a8 (i + 3) c8 (List.map af (namesI i) ++ [af { data := #[120] }, af { data := #[121] }, af { data := #[122] }]) hl8 1 (by have := HIN.out; omega) w ((hm8.on k).at_ cfA) (fun f hf => by
            rcases List.mem_append.1 hf with hf | hf
            · obtain ⟨s, hs, rfl⟩ := List.mem_map.1 hf
              have h := (namesI_mem HIN.out hs).1
              exact af_ok w s (by rw [h]; unfold maxLen; omega)
            · simp only [List.mem_cons, List.not_mem_nil, or_false] at hf
              rcases hf with rfl | rfl | rfl
              · exact af_ok w _ (by unfold maxLen; decide)
              · exact af_ok w _ (by unfold maxLen; decide)
              · exact af_ok w _ (by unfold maxLen; decide)))
          rw [newD_bad (F := (List.map af (namesI i) ++ [af { data := #[120] }, af { data := #[121] }, af { data := #[122] }]).map AF.t) (.inr (.inr (by rw [List.length_map, hl8]; have := HIN4.out; omega)))] at HN2
          clear hm8 hk8 hl8 hd8 hiP hzP0 hzP1 hzP2
          go_wp2_with fail
          refine HNM.out.mono ?_
          rintro e w9 ⟨v9, rfl, m9⟩
          obtain ⟨a9, c9, rfl⟩ := m9.slice
          have hl9 : (strs (namesA M3)).length = 4096 := by rw [strs_length]; unfold namesA; rw [List.length_map]; exact HT5.out
          rw [hl9]
          have HK9 := Lib.hid m9.kept
          clear m9 hl9
          go_wp2_with fail
          refine (HN2.out w9 HK9.out).mono ?_
          rintro e w10 ⟨h10, _⟩
          obtain ⟨rfl, k10⟩ := h10 rfl
          have HK10 := Lib.hid ((HM8.out.kept.trans HK9.out).trans k10)
          clear h10 k10
          go_wp2
          go_ret
          exact ⟨rfl, HK10.out⟩
end Go.Proofs.Ytdhfalcjohfdkaa
