/- The document's layer 32: the walk of Match. -/
import Derived.Test.YtjbjfdmdicfjfaaDL
import Derived.Deep.RegionWith
namespace Go.Proofs.Ytjbjfdmdicfjfaa
open Go.RowKit
attribute [local go_sem ↓] Go.wp_at_zero Go.wp_at_succ

set_option maxHeartbeats 2000000 in
set_option maxRecDepth 100000 in
theorem rmatch_any (a : Option Addr) (cp : Nat) (R : List RP) (s : ByteArray) (w : World) (hR : RsAt w a R) (hl : R.length ≤ 64) (hs : s.size ≤ 10000) :
    Calls Try.prog 13 #[.slice a R.length cp, .string s] w fun e w' => e = .returned (.bool (mt (R.map RP.p) (bl s))) ∧ Kept (fun _ => False) w w' := by
  obtain ⟨i0, hi0, hz0, hz1, hz2⟩ := info_parts Try.infoBool
  have HR := Lib.hid hR
  have HS := Lib.hid hs
  have HL := Lib.hid hl
  have HBL := Lib.hid (bl_length s)
  have HCH := Lib.hid (fun i (hi : i < s.size) w => run_chr (P := Try.prog) Try.underlying9 s i hi w)
  have HMK := Lib.hid (fun w => run_makeG (P := Try.prog) Try.underlying51 hi0 hz0 hz1 rfl (by omega) (s.size + 1) (by omega) w)
  have HCZ := Lib.hid (can_zero (R.map RP.p) (bl s))
  have HFIN : Hid (canB (R.map RP.p) (bl s) R.length s.size = mt (R.map RP.p) (bl s)) := Lib.hid (by unfold canB; rw [List.take_of_length_le (by rw [List.length_map]; omega), List.take_of_length_le (by rw [bl_length]; omega)])
  have HCG := Lib.hid (fun i k (h : k < s.size + 1) => canL_get (R.map RP.p) (bl s) i (k := k) (by rw [bl_length]; exact h))
  have HCL := Lib.hid (fun i => (canL_length (R.map RP.p) (bl s) i).trans (by rw [bl_length] : (bl s).length + 1 = s.size + 1))
  have HMANY := Lib.hid (fun i (r : RP) (h : R[i]? = some r) (h3 : r.p.k = 3) k (hk : k ≤ s.size) => can_many (ps := R.map RP.p) (l := bl s) (i := i) (p := r.p) (by rw [List.getElem?_map, h]; rfl) h3 k (by rw [bl_length]; exact hk))
  have HONE := Lib.hid (fun i (r : RP) (h : R[i]? = some r) (h3 : r.p.k ≠ 3) k (hk : k ≤ s.size) => can_one (ps := R.map RP.p) (l := bl s) (i := i) (p := r.p) (by rw [List.getElem?_map, h]; rfl) h3 k (by rw [bl_length]; exact hk))
  obtain ⟨B, hB⟩ : ∃ B, B = mt (R.map RP.p) (bl s) := ⟨_, rfl⟩
  obtain ⟨C, hC⟩ : ∃ C, C = canL (R.map RP.p) (bl s) := ⟨_, rfl⟩
  obtain ⟨cb, hcb⟩ : ∃ C, C = canB (R.map RP.p) (bl s) := ⟨_, rfl⟩
  rw [← hB] at HFIN ⊢
  rw [← hC] at HCZ HCG HCL
  rw [← hcb] at HFIN HCG HMANY HONE
  rw [bl_length] at HCZ
  have wn : IntKind.i64.wrap ((s.size : Int) + 1) = ((s.size + 1 : Nat) : Int) := by rw [IntWalk.i64_in _ ⟨by omega, by omega⟩]; omega
  obtain ⟨n1, hn1⟩ : ∃ n, n = s.size + 1 := ⟨_, rfl⟩
  rw [← hn1] at wn HMK HCG HCL HCZ
  have HN1 := Lib.hid hn1
  have hn10 : (0 : Int) ≤ (n1 : Int) := by omega
  have hmk := HMK.out
  have h0l : (0 : Int) < (n1 : Int) := by omega
  have HNL : Hid (n1 ≤ maxLen) := Lib.hid (by unfold maxLen; omega)
  clear hR hl hs hB hC hcb hn1
  go_enter Try.func13, Try.ntmps13
  go_upto_region 2 with fail
  have hm0 := mine_madeG (Kept.refl (fun _ => False) w) n1 (.bool false) 4 HNL.out
  have hc0 := mine_cell hm0 (j := 0) (u := .bool false) (by rw [List.getElem?_replicate, if_pos (by omega)])
  have hf0 := mine_unfz hm0 0
  have hm1 := mine_set hm0 0 (.bool true)
  rw [show List.replicate n1 (Value.bool false) = boV (List.replicate n1 false) by simp [boV], boV_set, HCZ.out] at hm1
  obtain ⟨g5, hg5⟩ : ∃ g, g = w.heap.size := ⟨_, rfl⟩
  rw [← hg5] at hm1 hc0 hf0 ⊢
  have HM1 := Lib.hid hm1
  clear hm0 hm1 hmk hg5
  go_upto_region 4 with fail
  go_loopg [6, 5] R.length (fun G s6 s5 wr => ∃ i : Nat, i ≤ R.length ∧ G = R.length - i ∧ s6 = .int .i64 i ∧ ∃ g, s5 = .slice (some ⟨g, 0, none⟩) n1 n1 ∧ Mine w wr 4 (.slice (some ⟨g, 0, none⟩) n1 n1) (boV (C i)))
  case atStart => exact ⟨0, Nat.zero_le _, rfl, rfl, g5, rfl, HM1.out⟩
  case round =>
    obtain ⟨i, hiR, rfl, rfl, g, rfl, hm⟩ := hrel
    have HM := Lib.hid hm
    clear hm HM1
    by_cases hd : i < R.length
    · have hdi : (i : Int) < (R.length : Int) := by omega
      have hi0' : (0 : Int) ≤ (i : Int) := by omega
      have wi : IntKind.i64.wrap ((i : Int) + 1) = ((i + 1 : Nat) : Int) := by rw [IntWalk.i64_in _ ⟨by omega, by have := HL.out; omega⟩]; omega
      have hgr := List.getElem?_eq_getElem hd
      obtain ⟨r, hr⟩ : ∃ r, r = R[i] := ⟨_, rfl⟩
      rw [← hr] at hgr
      have HGR := Lib.hid hgr
      have HMEM : Hid (r ∈ R) := Lib.hid (by rw [hr]; exact List.getElem_mem hd)
      have HD := Lib.hid hd
      obtain ⟨i1, hi1⟩ : ∃ k, k = i + 1 := ⟨_, rfl⟩
      rw [← hi1] at wi
      have HI1 := Lib.hid hi1
      have hmk := HMK.out
      clear hgr hr hd hi1 hiR
      go_upto_region 8 with fail
      have hm7 := mine_madeG (W := wr) (Kept.refl (fun _ => False) wr) n1 (.bool false) 4 HNL.out
      rw [show List.replicate n1 (Value.bool false) = boV (nxtL (C i1) 0) by simp [boV, nxtL, HCL.out]] at hm7
      have hmc := HM.out.alloc (.cells (Array.replicate n1 (.bool false)) 4)
      have HG5 := Lib.hid (ownsRow_lt HM.out.own (k := g) rfl)
      obtain ⟨w7, hw7⟩ : ∃ w7, w7 = wr.alloc (.cells (Array.replicate n1 (.bool false)) 4) := ⟨_, rfl⟩
      obtain ⟨g7, hg7⟩ : ∃ g, g = wr.heap.size := ⟨_, rfl⟩
      rw [← hw7] at hm7 hmc ⊢
      rw [← hg7] at hm7 ⊢
      have HM7 := Lib.hid hm7
      have HMC := Lib.hid hmc
      have HGG : Hid (g < g7 ∧ w.heap.size ≤ g7) := Lib.hid (by rw [hg7]; exact ⟨HG5.out.1, HM.out.kept.size⟩)
      clear hm7 hmc hw7 hg7 hmk
      go_loopg [8] n1 (fun G s8 wr2 => ∃ k : Nat, k ≤ n1 ∧ G = n1 - k ∧ s8 = .int .i64 k ∧ Mine w wr2 4 (.slice (some ⟨g, 0, none⟩) n1 n1) (boV (C i)) ∧ Mine wr wr2 4 (.slice (some ⟨g7, 0, none⟩) n1 n1) (boV (nxtL (C i1) k)))
      case atStart => exact ⟨0, Nat.zero_le _, rfl, rfl, HMC.out, HM7.out⟩
      case round =>
        obtain ⟨k, hkn, rfl, rfl, hmA, hmB⟩ := hrel
        have HA := Lib.hid hmA
        have HB := Lib.hid hmB
        have HRR := Lib.hid (HR.out.kept hmA.kept)
        have hns : n1 ≤ s.size + 1 := by have := HN1.out; omega
        have hns2 : s.size + 1 ≤ n1 := by have := HN1.out; omega
        clear hmA hmB
        by_cases hdk : k < n1
        · have hkle : (k : Int) ≤ (s.size : Int) := by omega
          have hkle' : decide (k ≤ s.size) = true := decide_eq_true (by omega)
          have hkn1 : (k : Int) < (n1 : Int) := by omega
          have hk0z : (0 : Int) ≤ (k : Int) := by omega
          have wk : IntKind.i64.wrap ((k : Int) + 1) = ((k + 1 : Nat) : Int) := by rw [IntWalk.i64_in _ ⟨by omega, by have := HS.out; omega⟩]; omega
          have ck := mine_cell HA.out (j := k) (boV_at (HCG.out i k hdk))
          have nk := mine_cell HB.out (j := k) (boV_at (nxtL_at (C := C i1) (k := k) (by rw [HCL.out]; exact hdk)))
          have nf := mine_unfz HB.out k
          have HCGK := Lib.hid (HCG.out i1 k hdk)
          obtain ⟨go, oo, ha, hrec⟩ := HRR.out.at_ (by have := HD.out; omega)
          subst ha
          have hcell := hrec i r HGR.out
          have x0 := hcell 0 _ rfl
          have x2 : wr.cell? ⟨go, oo + i * 4 + 2, none⟩ = some (.slice r.ao r.n r.cp) := hcell 2 _ rfl
          have hdR : (i : Int) < (R.length : Int) := by have := HD.out; omega
          rw [Nat.add_zero] at x0
          clear hrec hcell
          by_cases h3 : r.p.k = 3
          · rw [decide_eq_true h3] at x0
            have hval := HMANY.out i r HGR.out h3 k (by omega)
            rw [← HI1.out] at hval
            obtain ⟨b1, hb1⟩ : ∃ b, b = cb i k := ⟨_, rfl⟩
            rw [← hb1] at ck hval
            clear x2 h3 hb1
            cases b1 with
            | true =>
              have HVAL : Hid (cb i1 k = true) := Lib.hid (by rw [hval]; rfl)
              clear hval
              go_upto_region 9 with fail
              obtain ⟨wn, hwn⟩ : ∃ wn, wn = wr.setCell ⟨g7, k, none⟩ (.bool true) := ⟨_, rfl⟩
              rw [← hwn]
              have hkS : Kept (fun j => j = g7) wr wn := by rw [hwn]; exact (Kept.refl (fun j => j = g7) wr).setCell (fun _ => rfl) _
              have HA' := Lib.hid (HA.out.keptS hkS (fun j e e2 => by have := HGG.out.1; simp [Value.ownBlock] at e; omega) (fun j e => by have := HGG.out.2; omega))
              have hst := mine_set HB.out k (.bool true)
              rw [boV_set, nxtL_set (show (C i1)[k]? = some true by rw [HCGK.out, HVAL.out])] at hst
              have HB' : Hid (Mine _ wn 4 (.slice (some ⟨g7, 0, none⟩) n1 n1) (boV (nxtL (C i1) (k + 1)))) := Lib.hid (by rw [hwn]; exact hst)
              clear hwn hkS hst
              go_wp2
              go_roundg (n1 - (k + 1))
              case measure => omega
              case rel => exact ⟨k + 1, by omega, rfl, rfl, HA'.out, HB'.out⟩
            | false =>
              by_cases hk : k = 0
              · have HVAL : Hid (cb i1 k = false) := Lib.hid (by rw [hval, hk]; rfl)
                clear hval
                have hk0 : ¬ (0 : Int) < (k : Int) := by omega
                have hk0' : decide (0 < k) = false := decide_eq_false (by omega)
                clear hk
                go_upto_region 9 with fail
                obtain ⟨wn, hwn⟩ : ∃ wn, wn = wr.setCell ⟨g7, k, none⟩ (.bool false) := ⟨_, rfl⟩
                rw [← hwn]
                have hkS : Kept (fun j => j = g7) wr wn := by rw [hwn]; exact (Kept.refl (fun j => j = g7) wr).setCell (fun _ => rfl) _
                have HA' := Lib.hid (HA.out.keptS hkS (fun j e e2 => by have := HGG.out.1; simp [Value.ownBlock] at e; omega) (fun j e => by have := HGG.out.2; omega))
                have hst := mine_set HB.out k (.bool false)
                rw [boV_set, nxtL_set (show (C i1)[k]? = some false by rw [HCGK.out, HVAL.out])] at hst
                have HB' : Hid (Mine _ wn 4 (.slice (some ⟨g7, 0, none⟩) n1 n1) (boV (nxtL (C i1) (k + 1)))) := Lib.hid (by rw [hwn]; exact hst)
                clear hwn hkS hst
                go_wp2
                go_roundg (n1 - (k + 1))
                case measure => omega
                case rel => exact ⟨k + 1, by omega, rfl, rfl, HA'.out, HB'.out⟩
              · obtain ⟨k0, hk0e⟩ : ∃ k0, k0 = k - 1 := ⟨_, rfl⟩
                have hkp : (0 : Int) < (k : Int) := by omega
                have hkp' : decide (0 < k) = true := decide_eq_true (by omega)
                have wk0 : IntKind.i64.wrap ((k : Int) - 1) = (k0 : Int) := by rw [IntWalk.i64_in _ ⟨by omega, by have := HS.out; omega⟩]; omega
                have hk00 : (0 : Int) ≤ (k0 : Int) := by omega
                have hk0n : (k0 : Int) < (n1 : Int) := by omega
                have nk1 := mine_cell HB.out (j := k0) (boV_at ((nxtL_get (C := C i1) (k := k) (j := k0) (by omega) (by rw [HCL.out]; omega)).trans (HCG.out i1 k0 (by omega))))
                obtain ⟨b2, hb2⟩ : ∃ b, b = cb i1 k0 := ⟨_, rfl⟩
                rw [← hb2] at nk1
                have HVAL : Hid (cb i1 k = b2) := Lib.hid (by rw [hval, ← hk0e, hb2, hkp']; rfl)
                clear hval hb2 hk0e hk
                go_upto_region 9 with fail
                obtain ⟨wn, hwn⟩ : ∃ wn, wn = wr.setCell ⟨g7, k, none⟩ (.bool b2) := ⟨_, rfl⟩
                rw [← hwn]
                have hkS : Kept (fun j => j = g7) wr wn := by rw [hwn]; exact (Kept.refl (fun j => j = g7) wr).setCell (fun _ => rfl) _
                have HA' := Lib.hid (HA.out.keptS hkS (fun j e e2 => by have := HGG.out.1; simp [Value.ownBlock] at e; omega) (fun j e => by have := HGG.out.2; omega))
                have hst := mine_set HB.out k (.bool b2)
                rw [boV_set, nxtL_set (show (C i1)[k]? = some b2 by rw [HCGK.out, HVAL.out])] at hst
                have HB' : Hid (Mine _ wn 4 (.slice (some ⟨g7, 0, none⟩) n1 n1) (boV (nxtL (C i1) (k + 1)))) := Lib.hid (by rw [hwn]; exact hst)
                clear hwn hkS hst
                go_wp2
                go_roundg (n1 - (k + 1))
                case measure => omega
                case rel => exact ⟨k + 1, by omega, rfl, rfl, HA'.out, HB'.out⟩
          · rw [decide_eq_false h3] at x0
            have hval := HONE.out i r HGR.out h3 k (by omega)
            rw [← HI1.out] at hval
            obtain ⟨hn256, gi, cs, hao, hib, hic⟩ := HRR.out.ins r HMEM.out h3
            rw [hao, hn256] at x2
            by_cases hk : k = 0
            · have HVAL : Hid (cb i1 k = false) := Lib.hid (by rw [hval, hk]; rfl)
              clear hval
              have hk0 : ¬ (0 : Int) < (k : Int) := by omega
              have hk0' : decide (0 < k) = false := decide_eq_false (by omega)
              clear hk
              go_upto_region 12 with fail
              go_region
              obtain ⟨wn, hwn⟩ : ∃ wn, wn = (wr.setCell ⟨g7, k, none⟩ (.bool false)).drew := ⟨_, rfl⟩
              rw [← hwn]
              have hkS : Kept (fun j => j = g7) wr wn := by rw [hwn]; exact ((Kept.refl (fun j => j = g7) wr).setCell (fun _ => rfl) _).drew
              have HA' := Lib.hid (HA.out.keptS hkS (fun j e e2 => by have := HGG.out.1; simp [Value.ownBlock] at e; omega) (fun j e => by have := HGG.out.2; omega))
              have hst := mine_set HB.out k (.bool false)
              rw [boV_set, nxtL_set (show (C i1)[k]? = some false by rw [HCGK.out, HVAL.out])] at hst
              have HB' : Hid (Mine _ wn 4 (.slice (some ⟨g7, 0, none⟩) n1 n1) (boV (nxtL (C i1) (k + 1)))) := Lib.hid (by rw [hwn]; exact hst.on ((Kept.refl _ _).drew))
              clear hwn hkS hst
              go_wp2
              go_roundg (n1 - (k + 1))
              case measure => omega
              case rel => exact ⟨k + 1, by omega, rfl, rfl, HA'.out, HB'.out⟩
            · obtain ⟨k0, hk0e⟩ : ∃ k0, k0 = k - 1 := ⟨_, rfl⟩
              have hkp : (0 : Int) < (k : Int) := by omega
              have hkp' : decide (0 < k) = true := decide_eq_true (by omega)
              have wk0 : IntKind.i64.wrap ((k : Int) - 1) = (k0 : Int) := by rw [IntWalk.i64_in _ ⟨by omega, by have := HS.out; omega⟩]; omega
              have hk00 : (0 : Int) ≤ (k0 : Int) := by omega
              have hk0n : (k0 : Int) < (n1 : Int) := by omega
              have ck1 := mine_cell HA.out (j := k0) (boV_at (HCG.out i k0 (by omega)))
              obtain ⟨b1, hb1⟩ : ∃ b, b = cb i k0 := ⟨_, rfl⟩
              rw [← hb1] at ck1
              rw [← hk0e, ← hb1, hkp', bl_getD] at hval
              have hch := HCH.out k0 (by omega)
              have hlt := chr_lt s k0
              obtain ⟨c, hc⟩ : ∃ c, c = chr s k0 := ⟨_, rfl⟩
              rw [← hc] at hval hch hlt
              have xi : wr.cell? ⟨gi, c, none⟩ = some (.bool (r.p.hold c)) := by rw [cell_of_row _ _ _ _ _ _ hib]; exact hic c hlt
              obtain ⟨b2, hb2⟩ : ∃ b, b = r.p.hold c := ⟨_, rfl⟩
              rw [← hb2] at hval xi
              clear hb1 hb2 hc hk0e hk hic
              have hc0 : (0 : Int) ≤ (c : Int) := by omega
              have hc256 : (c : Int) < 256 := by omega
              cases b1 with
              | false =>
                have HVAL : Hid (cb i1 k = false) := Lib.hid (by rw [hval]; rfl)
                clear hval
                go_upto_region 12 with fail
                go_region
                obtain ⟨wn, hwn⟩ : ∃ wn, wn = (wr.setCell ⟨g7, k, none⟩ (.bool false)).drew := ⟨_, rfl⟩
                rw [← hwn]
                have hkS : Kept (fun j => j = g7) wr wn := by rw [hwn]; exact ((Kept.refl (fun j => j = g7) wr).setCell (fun _ => rfl) _).drew
                have HA' := Lib.hid (HA.out.keptS hkS (fun j e e2 => by have := HGG.out.1; simp [Value.ownBlock] at e; omega) (fun j e => by have := HGG.out.2; omega))
                have hst := mine_set HB.out k (.bool false)
                rw [boV_set, nxtL_set (show (C i1)[k]? = some false by rw [HCGK.out, HVAL.out])] at hst
                have HB' : Hid (Mine _ wn 4 (.slice (some ⟨g7, 0, none⟩) n1 n1) (boV (nxtL (C i1) (k + 1)))) := Lib.hid (by rw [hwn]; exact hst.on ((Kept.refl _ _).drew))
                clear hwn hkS hst
                go_wp2
                go_roundg (n1 - (k + 1))
                case measure => omega
                case rel => exact ⟨k + 1, by omega, rfl, rfl, HA'.out, HB'.out⟩
              | true =>
                have HVAL : Hid (cb i1 k = b2) := Lib.hid (by rw [hval]; rfl)
                clear hval
                go_upto_region 12 with fail
                go_region
                obtain ⟨wn, hwn⟩ : ∃ wn, wn = (wr.setCell ⟨g7, k, none⟩ (.bool b2)).drew := ⟨_, rfl⟩
                rw [← hwn]
                have hkS : Kept (fun j => j = g7) wr wn := by rw [hwn]; exact ((Kept.refl (fun j => j = g7) wr).setCell (fun _ => rfl) _).drew
                have HA' := Lib.hid (HA.out.keptS hkS (fun j e e2 => by have := HGG.out.1; simp [Value.ownBlock] at e; omega) (fun j e => by have := HGG.out.2; omega))
                have hst := mine_set HB.out k (.bool b2)
                rw [boV_set, nxtL_set (show (C i1)[k]? = some b2 by rw [HCGK.out, HVAL.out])] at hst
                have HB' : Hid (Mine _ wn 4 (.slice (some ⟨g7, 0, none⟩) n1 n1) (boV (nxtL (C i1) (k + 1)))) := Lib.hid (by rw [hwn]; exact hst.on ((Kept.refl _ _).drew))
                clear hwn hkS hst
                go_wp2
                go_roundg (n1 - (k + 1))
                case measure => omega
                case rel => exact ⟨k + 1, by omega, rfl, rfl, HA'.out, HB'.out⟩
        · obtain rfl : k = n1 := by omega
          clear hkn hdk
          have hkle : ¬ (k : Int) ≤ (s.size : Int) := by omega
          have hkle' : decide (k ≤ s.size) = false := decide_eq_false (by omega)
          have hall : nxtL (C i1) k = C i1 := by unfold nxtL; rw [List.take_of_length_le (by rw [HCL.out]; omega), HCL.out, Nat.sub_self]; simp
          have hb := HB.out
          rw [hall] at hb
          have HB' := Lib.hid (hb.down HM.out.kept)
          clear hall hb hns hns2
          go_wp2
          go_roundg (R.length - i1)
          case measure => have := HI1.out; have := HD.out; omega
          case rel => exact ⟨i1, by have := HI1.out; have := HD.out; omega, rfl, rfl, g7, rfl, HB'.out⟩
    · obtain rfl : i = R.length := by omega
      have hdi : ¬ (R.length : Int) < (R.length : Int) := by omega
      have hdi' : decide (R.length < R.length) = false := decide_eq_false hd
      have ck := mine_cell HM.out (j := s.size) (boV_at (HCG.out R.length s.size (by have := HN1.out; omega)))
      rw [HFIN.out] at ck
      have hsl : (s.size : Int) < (n1 : Int) := by have := HN1.out; omega
      have hsl0 : (0 : Int) ≤ (s.size : Int) := by omega
      go_wp2
      go_ret
      exact ⟨rfl, HM.out.kept⟩
end Go.Proofs.Ytjbjfdmdicfjfaa

