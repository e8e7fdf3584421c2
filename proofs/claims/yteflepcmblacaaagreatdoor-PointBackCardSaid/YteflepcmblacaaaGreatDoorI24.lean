/- Layer 12: the walk of PointBack (written by tools/gen_XI24.py). -/
import Derived.Test.YteflepcmblacaaaGreatDoorI23
namespace Go.Proofs.YteflepcmblacaaaGreatDoor
open Go.RowKit
attribute [local go_sem ↓] Go.wp_at_zero Go.wp_at_succ

set_option maxRecDepth 100000 in
set_option maxHeartbeats 16000000 in
theorem pointBack_walk0 (x : Pnt) (aa pa na : Option Addr) (ac pc nc : Nat) (W : World) (hx : PntAt W x aa ac (.slice pa x.h.pl.length pc) (.slice na x.h.nl.length nc)) (hox : x.ok) (hlx : x.L.length ≤ 9223372036854775807) :
    Calls Tryz.prog 3 #[pntV x (.slice aa x.L.length ac) (.slice pa x.h.pl.length pc) (.slice na x.h.nl.length nc)] W fun e w' => e = .returned (.bool true) ∧ Kept (fun _ => False) W w' := by
  have HAW := Lib.hid (fun w => awake12_any w)
  obtain ⟨q, hq⟩ : ∃ q, q = W.heap.size := ⟨_, rfl⟩
  obtain ⟨CX, hCX⟩ : ∃ a, a = pntC x (.slice aa x.L.length ac) (.slice pa x.h.pl.length pc) (.slice na x.h.nl.length nc) := ⟨_, rfl⟩
  have hvx : pntV x (.slice aa x.L.length ac) (.slice pa x.h.pl.length pc) (.slice na x.h.nl.length nc) = .agg CX := by rw [hCX]; rfl
  have HIX : Hid ((Tryz.prog.info? 30).map (·.size) = some CX.size) := Lib.hid (point_info.trans (by rw [hCX]; rfl))
  obtain ⟨w2, hw2⟩ : ∃ w2, w2 = W.alloc (.cells CX 30) := ⟨_, rfl⟩
  have k2 : Kept (fun _ => False) W w2 := by rw [hw2]; exact (Kept.refl _ _).alloc _
  have hb1 : w2.heap[q]? = some (.cells CX 30 (0, 0)) := by rw [hw2, hq]; exact heap_alloc_new W _
  have HBX : Hid (∀ w', Kept (fun _ => False) w2 w' → w'.heap[q]? = some (.cells CX 30 (0, 0))) := Lib.hid (fun w' k => k.same hb1 (fun x => x))
  have HX := Lib.hid (fun w' (k : Kept (fun _ => False) w2 w') => hx.on (k2.trans k))
  have HLX := Lib.hid (fun w' (k : Kept (fun _ => False) w2 w') => refLight12_any x aa pa na ac pc nc w' (HX.out w' k) hlx)
  rw [hvx] at HLX ⊢
  have HW2 := Lib.hid (And.intro hw2 hq)
  have HK02 := Lib.hid k2
  clear hw2 hq k2 hb1
  cases hBX : lightP x with
  | false =>
    rw [hBX] at HLX
    clear hBX hx hvx hCX
    go_enter Tryz.func3, Tryz.ntmps3
    go_upto_region 1 with fail
    rw [← HW2.out.1, ← HW2.out.2]
    go_wp2_with fail
    refine (HAW.out w2).mono ?_
    rintro e w3 ⟨rfl, k3⟩
    have HK3 := Lib.hid k3
    have HB3 := Lib.hid (HBX.out w3 k3)
    clear k3
    go_wp2_with (first
      | (refine wpList_load_row rfl 30 (.tmp 1) rfl q rfl 30 _ (0, 0) _ HB3.out Tryz.underlying30 rfl HIX.out ?_)
      | fail)
    refine (HLX.out w3 HK3.out).mono ?_
    rintro e w4 ⟨rfl, k4⟩
    have HK4 := Lib.hid (HK3.out.trans k4)
    clear k4
    go_wp2
    go_ret
    exact ⟨rfl, HK02.out.trans HK4.out⟩
  | true =>
    have hli := lightP_of hBX
    rw [hBX] at HLX
    clear hBX
    have HCK := Lib.hid (fun w' (k : Kept (fun _ => False) w2 w') => pCheck_any x aa pa na ac pc nc w' (HX.out w' k) hox hli)
    rw [hvx] at HCK
    by_cases hC : chk x = 0
    case neg =>
      have HBY := Lib.hid (fun w' (k : Kept (fun _ => False) w2 w') => bytes_not x hC aa pa na ac pc nc w' (HX.out w' k) hox hli)
      rw [hvx] at HBY
      obtain ⟨n, hn⟩ : ∃ n : Int, n = ((chk x : Nat) : Int) := ⟨_, rfl⟩
      rw [← hn] at HBY HCK
      have q1 : (n != 0) = true := by rw [bne_iff_ne]; omega
      clear hn hC hx hvx hCX
      go_enter Tryz.func3, Tryz.ntmps3
      go_upto_region 1 with fail
      rw [← HW2.out.1, ← HW2.out.2]
      go_wp2_with fail
      refine (HAW.out w2).mono ?_
      rintro e w3 ⟨rfl, k3⟩
      have HK3 := Lib.hid k3
      have HB3 := Lib.hid (HBX.out w3 k3)
      clear k3
      go_wp2_with (first
        | (refine wpList_load_row rfl 30 (.tmp 1) rfl q rfl 30 _ (0, 0) _ HB3.out Tryz.underlying30 rfl HIX.out ?_)
        | fail)
      refine (HLX.out w3 HK3.out).mono ?_
      rintro e w4 ⟨rfl, k4⟩
      have HK4 := Lib.hid (HK3.out.trans k4)
      have HB4 := Lib.hid (HBX.out w4 HK4.out)
      clear k4
      go_wp2_with (first
        | (refine wpList_load_row rfl 30 (.tmp 1) rfl q rfl 30 _ (0, 0) _ HB4.out Tryz.underlying30 rfl HIX.out ?_)
        | fail)
      refine (HBY.out w4 HK4.out).mono ?_
      rintro e w5 ⟨rfl, k5⟩
      have HK5 := Lib.hid (HK4.out.trans k5)
      have HB5 := Lib.hid (HBX.out w5 HK5.out)
      clear k5
      go_wp2_with (first
        | (refine wpList_load_row rfl 30 (.tmp 1) rfl q rfl 30 _ (0, 0) _ HB5.out Tryz.underlying30 rfl HIX.out ?_)
        | (refine wpList_load_rowG rfl 30 (.tmp 1) rfl q rfl 30 _ (0, 0) _ HB5.out Tryz.underlying30 rfl HIX.out ?_)
        | fail)
      refine (HCK.out w5 HK5.out).mono ?_
      rintro e w6 ⟨rfl, k6⟩
      have HK6 := Lib.hid (HK5.out.trans k6)
      clear k6
      go_wp2
      go_ret
      exact ⟨by simp, HK02.out.trans HK6.out⟩
    case pos =>
      have HBY := Lib.hid (fun w' (k : Kept (fun _ => False) w2 w') => bytes_back x hC aa pa na ac pc nc w' (HX.out w' k) hox hli)
      have HRB := Lib.hid (fun (B : Nat) (ao : Option Addr) (c : Nat) w' h => read_back x hC hox hli B ao c w' h)
      have HCL := Lib.hid (fun w' (k : Kept (fun _ => False) w2 w') => pClone_any x aa pa na ac pc nc w' (HX.out w' k) hli)
      rw [hvx] at HBY HCL
      rw [hC] at HCK
      have HSM : Hid (∀ w' g CY a1 va ua c1 vc uc, Kept (fun _ => False) w2 w' → RD w2 w' g CY x a1 va ua c1 vc uc → Calls Tryz.prog 12 #[.agg CX, .agg CY] w' fun e w'' => e = .returned (.bool true) ∧ Kept (fun _ => False) w' w'') := Lib.hid (fun w' g CY a1 va ua c1 vc uc k h => by
        have := pSame_any x (ordP x) aa pa na a1 va ua ac pc nc c1 vc uc w' (HX.out w' k) h.pnt hli (ordP_light hli)
        rw [ordP_same, hvx, h.val] at this
        exact this)
      have HRS : Hid (∀ w' g CY a1 va ua c1 vc uc, Kept (fun _ => False) w2 w' → RD w2 w' g CY x a1 va ua c1 vc uc → Calls Tryz.prog 11 #[.agg CX, .agg CY] w' fun e w'' => e = .returned (.bool true) ∧ Kept (fun _ => False) w' w'') := Lib.hid (fun w' g CY a1 va ua c1 vc uc k h => by
        have := refSameP_any x (ordP x) aa pa na a1 va ua ac pc nc c1 vc uc w' (HX.out w' k) h.pnt hli (ordP_light hli)
        rw [ordP_same, hvx, h.val] at this
        exact this)
      have HLL := Lib.hid (And.intro hli.len (And.intro hli.pl hli.nl))
      have HPL : Hid ((pntB x).length ≤ 100000000000) := Lib.hid (by
        unfold pntB
        have h1 := numsI_len (heads x)
        have h2 := bytesV_len x hli.pl hli.nl
        have h3 := numB_len (txt x).size
        have h4 := strB_length (txt x)
        have h5 := txt_small (right_of hC)
        rw [List.length_append, List.length_append, List.length_append]
        have : (heads x).length = 6 := rfl
        omega)
      obtain ⟨n, hn⟩ : ∃ n, n = (pntB x).length := ⟨_, rfl⟩
      obtain ⟨BL, hBL⟩ : ∃ l, l = u8s (pntB x) := ⟨_, rfl⟩
      rw [← hn] at HPL HBY HRB
      rw [← hBL] at HBY HRB
      clear hn hBL hC hx hvx hCX hlx hox hli
      go_enter Tryz.func3, Tryz.ntmps3
      go_upto_region 1 with fail
      rw [← HW2.out.1, ← HW2.out.2]
      go_wp2_with fail
      refine (HAW.out w2).mono ?_
      rintro e w3 ⟨rfl, k3⟩
      have HK3 := Lib.hid k3
      have HB3 := Lib.hid (HBX.out w3 k3)
      clear k3
      go_wp2_with (first
        | (refine wpList_load_row rfl 30 (.tmp 1) rfl q rfl 30 _ (0, 0) _ HB3.out Tryz.underlying30 rfl HIX.out ?_)
        | fail)
      refine (HLX.out w3 HK3.out).mono ?_
      rintro e w4 ⟨rfl, k4⟩
      have HK4 := Lib.hid (HK3.out.trans k4)
      have HB4 := Lib.hid (HBX.out w4 HK4.out)
      clear k4
      go_wp2_with (first
        | (refine wpList_load_row rfl 30 (.tmp 1) rfl q rfl 30 _ (0, 0) _ HB4.out Tryz.underlying30 rfl HIX.out ?_)
        | fail)
      refine (HBY.out w4 HK4.out).mono ?_
      rintro e w5 ⟨ab, cb, rfl, ho5, k5⟩
      have HK5 := Lib.hid (HK4.out.trans k5)
      have HO5 := Lib.hid ho5
      clear k5 ho5
      go_wp2_with fail
      refine (HRB.out _ _ _ w5 HO5.out).mono ?_
      rintro e w6 ⟨CY, a1, c1, va, vc, ua, uc, rfl, hCY, m6, mp6, mn6⟩
      obtain ⟨g5, hg5⟩ : ∃ g, g = w6.heap.size := ⟨_, rfl⟩
      have HIY : Hid ((Tryz.prog.info? 30).map (·.size) = some CY.size) := Lib.hid (point_info.trans (by rw [hCY]; rfl))
      have HSZ : Hid (CY.size = 17 ∧ CY.all (·.oneCell') = true) := Lib.hid (by rw [hCY]; exact ⟨rfl, pntC_one _ _ _ _ _ _ _ _ _ _⟩)
      have HM6 := Lib.hid (And.intro m6 (And.intro mp6 mn6))
      have HCY := Lib.hid hCY
      have HG5 := Lib.hid hg5
      have HK6 := Lib.hid (HK5.out.trans m6.kept)
      clear m6 mp6 mn6 hCY hg5
      go_upto_region 9 with (refine wpList_store_box rfl 30 (.tmp 5) _ rfl w6 _ CY 30 rfl rfl rfl HIY.out (by rw [HSZ.out.1]; rfl) HSZ.out.2 ?_; intro w7 hb7 k7; have HR7 : Hid (RD w2 w7 g5 CY x a1 va ua c1 vc uc) := Lib.hid (by rw [HG5.out]; exact ⟨HCY.out, hb7, (HM6.out.1.on k7).down HK5.out, (HM6.out.2.1.on k7).down HK5.out, (HM6.out.2.2.on k7).down HK5.out⟩); have HO7 := Lib.hid (k7.owns (HM6.out.1.kept.owns HO5.out (fun _ _ x => x)) (fun _ _ x => x)); have HK7 := Lib.hid (HK6.out.trans k7); have HB7 := Lib.hid (HBX.out w7 HK7.out); clear hb7 k7)
      rw [← HG5.out]
      go_wp2_with (first
        | (refine wpList_load_row rfl 30 (.tmp 1) rfl q rfl 30 _ (0, 0) _ HB7.out Tryz.underlying30 rfl HIX.out ?_)
        | fail)
      refine (HCL.out w7 HK7.out).mono ?_
      rintro e w8 ⟨d1, e1, d2, e2, d3, e3, rfl, m8, mp8, _⟩
      obtain ⟨CC, hCC⟩ : ∃ a, a = pntC x (.slice d1 x.L.length e1) (.slice d2 x.h.pl.length e2) (.slice d3 x.h.nl.length e3) := ⟨_, rfl⟩
      have hvc : pntV x (.slice d1 x.L.length e1) (.slice d2 x.h.pl.length e2) (.slice d3 x.h.nl.length e3) = .agg CC := by rw [hCC]; rfl
      rw [hvc]
      have HIC : Hid ((Tryz.prog.info? 30).map (·.size) = some CC.size) := Lib.hid (point_info.trans (by rw [hCC]; rfl))
      have HSC : Hid (CC.size = 17 ∧ CC.all (·.oneCell') = true) := Lib.hid (by rw [hCC]; exact ⟨rfl, pntC_one _ _ _ _ _ _ _ _ _ _⟩)
      obtain ⟨g7, hg7⟩ : ∃ g, g = w8.heap.size := ⟨_, rfl⟩
      have HAP := Lib.hid (And.intro (own_apart HR7.out.at_.own m8.own (Nat.le_refl _)) (And.intro (own_apart HR7.out.mp.own mp8.own (Nat.le_refl _)) (own_apart HR7.out.mn.own mp8.own (Nat.le_refl _))))
      have HM8 := Lib.hid (And.intro m8 mp8)
      have HG7 := Lib.hid hg7
      have HCC := Lib.hid hCC
      clear m8 mp8 hg7 hCC hvc
      go_upto_region 10 with (refine wpList_store_box rfl 30 (.tmp 7) _ rfl w8 _ CC 30 rfl rfl rfl HIC.out (by rw [HSC.out.1]; rfl) HSC.out.2 ?_; intro w9 hb9 k9; have HC9 : Hid (CL w2 w9 g7 x d1 d2 d3 e1 e2 e3) := Lib.hid (by rw [HG7.out]; exact ⟨by rw [← HCC.out]; exact hb9, (HM8.out.1.on k9).down HK7.out, (HM8.out.2.on k9).down HK7.out⟩); have HR9 := Lib.hid (HR7.out.on (HM8.out.1.kept.trans k9)); have HO9 := Lib.hid (k9.owns (HM8.out.1.kept.owns HO7.out (fun _ _ x => x)) (fun _ _ x => x)); have HK9 := Lib.hid ((HK7.out.trans HM8.out.1.kept).trans k9); clear hb9 k9)
      rw [← HG7.out]
      clear HM6 HM8 HO5 HO7 HR7 HB7 HB3 HB4 HCL HBY HRB
      have HB4 : Hid (w2.heap.size ≤ w4.heap.size) := Lib.hid HK4.out.size
      have HOV : Hid (OverG (fun _ => True) 5 1 w4.heap.size w9 w9 ab n cb) := Lib.hid (OverG.start HO9.out (fun _ _ => trivial))
      go_wp2
      go_loopg [8] n (fun g s8 wr => ∃ k : Nat, k ≤ n ∧ g = n - k ∧ s8 = .int .i64 k ∧ OverG (fun _ => True) 5 1 w4.heap.size w9 wr ab n cb)
      case atStart => exact ⟨0, Nat.zero_le _, rfl, rfl, HOV.out⟩
      case round =>
        obtain ⟨k, hk, rfl, rfl, hov⟩ := hrel
        have HOVr := Lib.hid hov
        by_cases hkd : k < n
        · have hki : (k : Int) < (n : Int) := by omega
          have HKD := Lib.hid hkd
          have wk : IntKind.i64.wrap ((k : Int) + 1) = ((k + 1 : Nat) : Int) := by rw [IntWalk.i64_in _ ⟨by omega, by have := HPL.out; omega⟩]; omega
          obtain ⟨g, hg, hc⟩ := hov.at0 (by omega)
          obtain ⟨⟨u, _, hu⟩, hf⟩ := hc k (by omega)
          subst hg
          clear hc hov hk hkd
          go_wp2
          go_roundg (n - (k + 1))
          case measure => have := HKD.out; omega
          case rel => exact ⟨k + 1, HKD.out, rfl, rfl, HOVr.out.set k trivial⟩
        · obtain rfl : n = k := by omega
          have HRa := Lib.hid (HR9.out.bytes hov HO9.out HB4.out)
          have HCa := Lib.hid (HC9.out.bytes hov HO9.out HB4.out)
          have HKa := Lib.hid (hov.keptW HO9.out HB4.out HK9.out)
          clear hov hk hkd HOVr HOV HR9 HC9 HO9
          obtain ⟨al, hal⟩ : ∃ m, m = x.L.length := ⟨_, rfl⟩
          have HOA := HCa.out.at_.own
          have HAP1 := HAP.out.1
          have HLA := HLL.out.1
          rw [← hal] at HOA HLA
          have hcb : ∀ ws : World, ws.heap[g7]? = some (.cells (pntC x (.slice d1 x.L.length e1) (.slice d2 x.h.pl.length e2) (.slice d3 x.h.nl.length e3)) 30 (0, 0)) → ws.cell? ⟨g7, 1, none⟩ = some (.slice d1 al e1) := fun ws h => by rw [hal]; exact cell_rowZ 1 _ h rfl
          have HCB := Lib.hid hcb
          have HOB := Lib.hid HOA
          have HAL := Lib.hid hal
          have HLB := Lib.hid HLA
          have HOV : Hid (OverG (fun _ => True) 42 2 w2.heap.size wr wr d1 al e1) := Lib.hid (OverG.start HOA (fun _ _ => trivial))
          clear hcb HOA HAP1 HLA hal
          go_wp2
          go_loopg [9] al (fun g s9 ws => ∃ k : Nat, k ≤ al ∧ g = al - k ∧ s9 = .int .i64 k ∧ OverG (fun _ => True) 42 2 w2.heap.size wr ws d1 al e1)
          case atStart => exact ⟨0, Nat.zero_le _, rfl, rfl, HOV.out⟩
          case round =>
            obtain ⟨k, hk, rfl, rfl, hov⟩ := hrel
            have HOVr := Lib.hid hov
            have x1 := HCB.out _ (hov.box HOB.out HCa.out.box (by decide))
            by_cases hkd : k < al
            · have hki : (k : Int) < (al : Int) := by omega
              have HKD := Lib.hid hkd
              have wk : IntKind.i64.wrap ((k : Int) + 1) = ((k + 1 : Nat) : Int) := by rw [IntWalk.i64_in _ ⟨by omega, by have := HLB.out; omega⟩]; omega
              obtain ⟨g, hg, hc⟩ := hov.at0 (by omega)
              obtain ⟨⟨u, _, hu⟩, hf⟩ := hc (k * 2) (by omega)
              subst hg
              clear hc hov hk hkd
              go_wp2
              go_roundg (al - (k + 1))
              case measure => have := HKD.out; omega
              case rel => exact ⟨k + 1, HKD.out, rfl, rfl, HOVr.out.set (k * 2) trivial⟩
            · obtain rfl : al = k := by omega
              have hle := Nat.le_refl w2.heap.size
              rw [HAL.out] at hov HOB
              have HRb := Lib.hid (HRa.out.pairs hov HOB.out hle HAP.out.1)
              have HCb := Lib.hid (And.intro (hov.box HOB.out HCa.out.box (by decide)) (hov.mine HOB.out hle HCa.out.mp (by decide)))
              have HKb := Lib.hid (hov.keptW HOB.out hle HKa.out)
              clear hov hk hkd HOVr HOV HRa HCa HOB hle HCB
              obtain ⟨m, hm⟩ : ∃ m, m = x.h.pl.length := ⟨_, rfl⟩
              have HOA := HCb.out.2.own
              have HLA := HLL.out.2.1
              rw [uvals_length, ← hm] at HOA
              rw [← hm] at HLA
              have hcb : ∀ ws : World, ws.heap[g7]? = some (.cells (pntC x (.slice d1 x.L.length e1) (.slice d2 x.h.pl.length e2) (.slice d3 x.h.nl.length e3)) 30 (0, 0)) → ws.cell? ⟨g7, 13, none⟩ = some (.slice d2 m e2) := fun ws h => by rw [hm]; exact cell_rowZ 13 _ h rfl
              have HCB := Lib.hid hcb
              have HOB := Lib.hid HOA
              have HPM := Lib.hid hm
              have HLB2 := Lib.hid HLA
              have HOV : Hid (OverG (fun u => ∃ z : Int, u = .int .u64 z) 23 1 w2.heap.size wr wr d2 m e2) := Lib.hid (OverG.start HOA (uvals_ints _))
              clear hcb HOA HLA hm
              go_wp2
              go_loopg [10] m (fun g s10 wt => ∃ k : Nat, k ≤ m ∧ g = m - k ∧ s10 = .int .i64 k ∧ OverG (fun u => ∃ z : Int, u = .int .u64 z) 23 1 w2.heap.size wr wt d2 m e2)
              case atStart => exact ⟨0, Nat.zero_le _, rfl, rfl, HOV.out⟩
              case round =>
                obtain ⟨k, hk, rfl, rfl, hov⟩ := hrel
                have HOVr := Lib.hid hov
                have x13 := HCB.out _ (hov.box HOB.out HCb.out.1 (by decide))
                by_cases hkd : k < m
                · have hki : (k : Int) < (m : Int) := by omega
                  have HKD := Lib.hid hkd
                  have wk : IntKind.i64.wrap ((k : Int) + 1) = ((k + 1 : Nat) : Int) := by rw [IntWalk.i64_in _ ⟨by omega, by have := HLB2.out; omega⟩]; omega
                  have hovd := hov.on (Kept.refl (fun _ => False) wr).drew
                  have HOVd := Lib.hid hovd
                  have hbd := HCB.out _ (hovd.box HOB.out HCb.out.1 (by decide))
                  obtain ⟨g, hg, hc⟩ := hovd.at0 (by omega)
                  obtain ⟨⟨u, ⟨z, hz⟩, hu⟩, hf⟩ := hc k (by omega)
                  subst hg
                  subst hz
                  have HSS := Lib.hid (And.intro hbd hu)
                  have HFZ := Lib.hid hf
                  clear hc hov hovd hk hkd hbd hu hf
                  go_upto_region 21 with fail
                  clear x13
                  refine AnyBut.start (S := fun w' => w'.cell? ⟨g7, 13, none⟩ = some (.slice (some ⟨g, 0, none⟩) m e2) ∧ w'.cell? ⟨g, k, none⟩ = some (.int .u64 z)) (k := 14) (by kernel_rfl) ?_
                  refine AnyBut.take (i := 0) (v := ?v1) rfl (by kernel_rfl) (by kernel_rfl) (by kernel_rfl) (by kernel_rfl) (fun _ _ _ h => h) (HSS.out) (Or.inl ⟨by kernel_rfl, ?hy1⟩) ?r1
                  case hy1 =>
                    intro w hSw
                    try dsimp only at hSw
                    go_simp
                    first | (obtain ⟨y0, y1⟩ := hSw; go_simp) | skip
                    try with_reducible rfl
                  try simp only [Act.put, List.getElem_toArray, List.getElem_cons_zero, List.setIfInBounds_toArray, List.set_cons_zero, List.set_cons_succ]
                  refine AnyBut.take (i := 1) (v := ?v2) rfl (by kernel_rfl) (by kernel_rfl) (by kernel_rfl) (by kernel_rfl) (fun _ _ _ h => h) (HSS.out) (Or.inl ⟨by kernel_rfl, ?hy2⟩) ?r2
                  case hy2 =>
                    intro w hSw
                    try dsimp only at hSw
                    go_simp
                    first | (obtain ⟨y0, y1⟩ := hSw; go_simp) | skip
                    try with_reducible rfl
                  try simp only [Act.put, List.getElem_toArray, List.getElem_cons_succ, List.getElem_cons_zero, List.setIfInBounds_toArray, List.set_cons_zero, List.set_cons_succ]
                  refine AnyBut.take (i := 2) (v := ?v3) rfl (by kernel_rfl) (by kernel_rfl) (by kernel_rfl) (by kernel_rfl) (fun _ _ _ h => h) (HSS.out) (Or.inl ⟨by kernel_rfl, ?hy3⟩) ?r3
                  case hy3 =>
                    intro w hSw
                    try dsimp only at hSw
                    go_simp
                    first | (obtain ⟨y0, y1⟩ := hSw; go_simp) | skip
                    try with_reducible rfl
                  try simp only [Act.put, List.getElem_toArray, List.getElem_cons_succ, List.getElem_cons_zero, List.setIfInBounds_toArray, List.set_cons_zero, List.set_cons_succ]
                  refine AnyBut.take (i := 3) (v := ?v4) rfl (by kernel_rfl) (by kernel_rfl) (by kernel_rfl) (by kernel_rfl) (fun _ _ _ h => h) (HSS.out) (Or.inl ⟨by kernel_rfl, ?hy4⟩) ?r4
                  case hy4 =>
                    intro w hSw
                    try dsimp only at hSw
                    go_simp
                    first | (obtain ⟨y0, y1⟩ := hSw; go_simp) | skip
                    try with_reducible rfl
                  try simp only [Act.put, List.getElem_toArray, List.getElem_cons_succ, List.getElem_cons_zero, List.setIfInBounds_toArray, List.set_cons_zero, List.set_cons_succ]
                  refine AnyBut.take (i := 4) (v := ?v5) rfl (by kernel_rfl) (by kernel_rfl) (by kernel_rfl) (by kernel_rfl) (fun _ _ _ h => h) (HSS.out) (Or.inl ⟨by kernel_rfl, ?hy5⟩) ?r5
                  case hy5 =>
                    intro w hSw
                    try dsimp only at hSw
                    go_simp
                    first | (obtain ⟨y0, y1⟩ := hSw; go_simp) | skip
                    try with_reducible rfl
                  try simp only [Act.put, List.getElem_toArray, List.getElem_cons_succ, List.getElem_cons_zero, List.setIfInBounds_toArray, List.set_cons_zero, List.set_cons_succ]
                  refine AnyBut.take (i := 5) (v := ?v6) rfl (by kernel_rfl) (by kernel_rfl) (by kernel_rfl) (by kernel_rfl) (fun _ _ _ h => h) (HSS.out) (Or.inl ⟨by kernel_rfl, ?hy6⟩) ?r6
                  case hy6 =>
                    intro w hSw
                    try dsimp only at hSw
                    go_simp
                    first | (obtain ⟨y0, y1⟩ := hSw; go_simp) | skip
                    try with_reducible rfl
                  try simp only [Act.put, List.getElem_toArray, List.getElem_cons_succ, List.getElem_cons_zero, List.setIfInBounds_toArray, List.set_cons_zero, List.set_cons_succ]
                  refine AnyBut.take (i := 6) (v := ?v7) rfl (by kernel_rfl) (by kernel_rfl) (by kernel_rfl) (by kernel_rfl) (fun _ _ _ h => h) (HSS.out) (Or.inl ⟨by kernel_rfl, ?hy7⟩) ?r7
                  case hy7 =>
                    intro w hSw
                    try dsimp only at hSw
                    go_simp
                    first | (obtain ⟨y0, y1⟩ := hSw; go_simp) | skip
                    try with_reducible rfl
                  try simp only [Act.put, List.getElem_toArray, List.getElem_cons_succ, List.getElem_cons_zero, List.setIfInBounds_toArray, List.set_cons_zero, List.set_cons_succ]
                  refine AnyBut.take (i := 7) (v := ?v8) rfl (by kernel_rfl) (by kernel_rfl) (by kernel_rfl) (by kernel_rfl) (fun _ _ _ h => h) (HSS.out) (Or.inl ⟨by kernel_rfl, ?hy8⟩) ?r8
                  case hy8 =>
                    intro w hSw
                    try dsimp only at hSw
                    go_simp
                    first | (obtain ⟨y0, y1⟩ := hSw; go_simp) | skip
                    try with_reducible rfl
                  try simp only [Act.put, List.getElem_toArray, List.getElem_cons_succ, List.getElem_cons_zero, List.setIfInBounds_toArray, List.set_cons_zero, List.set_cons_succ]
                  refine AnyBut.take (i := 8) (v := ?v9) rfl (by kernel_rfl) (by kernel_rfl) (by kernel_rfl) (by kernel_rfl) (fun _ _ _ h => h) (HSS.out) (Or.inl ⟨by kernel_rfl, ?hy9⟩) ?r9
                  case hy9 =>
                    intro w hSw
                    try dsimp only at hSw
                    go_simp
                    first | (obtain ⟨y0, y1⟩ := hSw; go_simp) | skip
                    try with_reducible rfl
                  try simp only [Act.put, List.getElem_toArray, List.getElem_cons_succ, List.getElem_cons_zero, List.setIfInBounds_toArray, List.set_cons_zero, List.set_cons_succ]
                  refine AnyBut.take (i := 9) (v := ?v10) rfl (by kernel_rfl) (by kernel_rfl) (by kernel_rfl) (by kernel_rfl) (fun _ _ _ h => h) (HSS.out) (Or.inl ⟨by kernel_rfl, ?hy10⟩) ?r10
                  case hy10 =>
                    intro w hSw
                    try dsimp only at hSw
                    go_simp
                    first | (obtain ⟨y0, y1⟩ := hSw; go_simp) | skip
                    try with_reducible rfl
                  try simp only [Act.put, List.getElem_toArray, List.getElem_cons_succ, List.getElem_cons_zero, List.setIfInBounds_toArray, List.set_cons_zero, List.set_cons_succ]
                  refine AnyBut.take (i := 10) (v := ?v11) rfl (by kernel_rfl) (by kernel_rfl) (by kernel_rfl) (by kernel_rfl) (fun _ _ _ h => h) (HSS.out) (Or.inl ⟨by kernel_rfl, ?hy11⟩) ?r11
                  case hy11 =>
                    intro w hSw
                    try dsimp only at hSw
                    go_simp
                    first | (obtain ⟨y0, y1⟩ := hSw; go_simp) | skip
                    try with_reducible rfl
                  try simp only [Act.put, List.getElem_toArray, List.getElem_cons_succ, List.getElem_cons_zero, List.setIfInBounds_toArray, List.set_cons_zero, List.set_cons_succ]
                  refine AnyBut.take (i := 11) (v := ?v12) rfl (by kernel_rfl) (by kernel_rfl) (by kernel_rfl) (by kernel_rfl) (fun _ _ _ h => h) (HSS.out) (Or.inl ⟨by kernel_rfl, ?hy12⟩) ?r12
                  case hy12 =>
                    intro w hSw
                    try dsimp only at hSw
                    go_simp
                    first | (obtain ⟨y0, y1⟩ := hSw; go_simp) | skip
                    try with_reducible rfl
                  try simp only [Act.put, List.getElem_toArray, List.getElem_cons_succ, List.getElem_cons_zero, List.setIfInBounds_toArray, List.set_cons_zero, List.set_cons_succ]
                  refine AnyBut.take (i := 12) (v := ?v13) rfl (by kernel_rfl) (by kernel_rfl) (by kernel_rfl) (by kernel_rfl) (fun _ _ _ h => h) (HSS.out) (Or.inl ⟨by kernel_rfl, ?hy13⟩) ?r13
                  case hy13 =>
                    intro w hSw
                    try dsimp only at hSw
                    go_simp
                    first | (obtain ⟨y0, y1⟩ := hSw; go_simp) | skip
                    try with_reducible rfl
                  try simp only [Act.put, List.getElem_toArray, List.getElem_cons_succ, List.getElem_cons_zero, List.setIfInBounds_toArray, List.set_cons_zero, List.set_cons_succ]
                  refine AnyBut.take (i := 13) (v := ?v14) rfl (by kernel_rfl) (by kernel_rfl) (by kernel_rfl) (by kernel_rfl) (fun _ _ _ h => h) (HSS.out) (Or.inl ⟨by kernel_rfl, ?hy14⟩) ?r14
                  case hy14 =>
                    intro w hSw
                    try dsimp only at hSw
                    go_simp
                    first | (obtain ⟨y0, y1⟩ := hSw; go_simp) | skip
                    try with_reducible rfl
                  try simp only [Act.put, List.getElem_toArray, List.getElem_cons_succ, List.getElem_cons_zero, List.setIfInBounds_toArray, List.set_cons_zero, List.set_cons_succ]
                  refine AnyBut.last (by kernel_rfl) rfl (by kernel_rfl) (fun K hK => ?_)
                  obtain ⟨y0, y1⟩ := HSS.out
                  have fz := HFZ.out
                  go_simp
                  go_wp2
                  refine hK.out _ _ ?_
                  clear hK K
                  try simp only [Act.put, List.getElem_toArray, List.getElem_cons_succ, List.getElem_cons_zero, List.setIfInBounds_toArray, List.set_cons_zero, List.set_cons_succ]
                  go_wp2
                  go_roundg (m - (k + 1))
                  case measure => have := HKD.out; omega
                  case rel => exact ⟨k + 1, HKD.out, rfl, rfl, (HOVr.out.set k ⟨_, rfl⟩).on (Kept.refl _ _).drew⟩
                · obtain rfl : m = k := by omega
                  have hle := Nat.le_refl w2.heap.size
                  rw [HPM.out] at hov HOB
                  have HRc := Lib.hid (HRb.out.counts hov HOB.out hle HAP.out.2.1 HAP.out.2.2)
                  have HKc := Lib.hid (hov.keptW HOB.out hle HKb.out)
                  clear hov hk hkd HOVr HOV HRb HCb HOB hle HCB
                  have HBc := Lib.hid (HBX.out _ HKc.out)
                  have HBy := Lib.hid HRc.out.box
                  go_wp2_with (first
                    | (refine wpList_load_rowG rfl 30 (.tmp 1) rfl q rfl 30 _ (0, 0) _ HBc.out Tryz.underlying30 rfl HIX.out ?_)
                    | (refine wpList_load_rowG rfl 30 (.tmp 5) rfl g5 rfl 30 _ (0, 0) _ HBy.out Tryz.underlying30 rfl HIY.out ?_)
                    | fail)
                  refine (HRS.out _ _ _ _ _ _ _ _ _ HKc.out HRc.out).mono ?_
                  rintro e u1 ⟨rfl, j1⟩
                  have HK1 := Lib.hid (HKc.out.trans j1)
                  have HR1 := Lib.hid (HRc.out.on j1)
                  have HB1 := Lib.hid (HBX.out _ HK1.out)
                  have HY1 := Lib.hid HR1.out.box
                  clear j1
                  go_wp2_with (first
                    | (refine wpList_load_rowG rfl 30 (.tmp 1) rfl q rfl 30 _ (0, 0) _ HB1.out Tryz.underlying30 rfl HIX.out ?_)
                    | (refine wpList_load_rowG rfl 30 (.tmp 5) rfl g5 rfl 30 _ (0, 0) _ HY1.out Tryz.underlying30 rfl HIY.out ?_)
                    | fail)
                  refine (HSM.out _ _ _ _ _ _ _ _ _ HK1.out HR1.out).mono ?_
                  rintro e u2 ⟨rfl, j2⟩
                  have HK2 := Lib.hid (HK1.out.trans j2)
                  have HB2 := Lib.hid (HBX.out _ HK2.out)
                  clear j2
                  go_wp2_with (first
                    | (refine wpList_load_rowG rfl 30 (.tmp 1) rfl q rfl 30 _ (0, 0) _ HB2.out Tryz.underlying30 rfl HIX.out ?_)
                    | fail)
                  refine (HCK.out _ HK2.out).mono ?_
                  rintro e u3 ⟨rfl, j3⟩
                  have HK3c := Lib.hid (HK2.out.trans j3)
                  clear j3
                  go_wp2
                  go_ret
                  exact ⟨by simp, HK02.out.trans HK3c.out⟩
theorem pointBack_walk (x : Pnt) (aa pa na : Option Addr) (ac pc nc : Nat) (W : World) (hx : PntAt W x aa ac (.slice pa x.h.pl.length pc) (.slice na x.h.nl.length nc)) (hox : x.ok) (hlx : x.L.length ≤ 9223372036854775807) (_ : NoTab W) :
    Calls Tryz.prog 3 #[pntV x (.slice aa x.L.length ac) (.slice pa x.h.pl.length pc) (.slice na x.h.nl.length nc)] W fun e w' => e = .returned (.bool true) ∧ Kept (fun _ => False) W w' := pointBack_walk0 x aa pa na ac pc nc W hx hox hlx
end Go.Proofs.YteflepcmblacaaaGreatDoor
