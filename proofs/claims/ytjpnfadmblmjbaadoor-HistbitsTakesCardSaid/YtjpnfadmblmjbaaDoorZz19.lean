/- Texts put together: Z40, Z41, Z42. -/
import Derived.Test.YtjpnfadmblmjbaaDoorZz17
import Derived.Test.YtjpnfadmblmjbaaDoorZz18
import Derived.Test.YtjpnfadmblmjbaaDoorZz14
/- package limnographref10: Get, a shape of its own (written by tools/gen_XZ39.py). -/
namespace Go.Proofs.YtjpnfadmblmjbaaDoor
open Go.RowKit
attribute [local go_sem ↓] Go.wp_at_zero Go.wp_at_succ

set_option maxHeartbeats 16000000 in
set_option maxRecDepth 100000 in
theorem refGet10_C (rao : Option Addr) (rc : Nat) (L : List HP) (ao : Option Addr) (c : Nat) (l : List Bool) (w : World) (hr : HsAt w rao L) (hLn : L.length ≤ 1000) (hin : ∀ P ∈ L, HistAt w P.h P.pv P.nv ∧ P.h.ok ∧ P.h.pl.length ≤ 160 ∧ P.h.nl.length ≤ 160)
    (hv : SlAt w (.slice ao l.length c) (ints l)) (hvo : ∀ k, (Value.slice ao l.length c).ownBlock = some k → k < w.heap.size) (hc : l.length ≤ c) (hl : l.length ≤ 100000000) (h1 : ¬ (bitsR l 0 0 1).1 = 1) :
    Calls Tryd.prog 45 #[.slice rao L.length rc, .slice ao l.length c] w (GetD w (docG L.length (lastH L) l)) := by
  have hD : docG L.length (lastH L) l = finD L.length (lastH L) false ⟨((bitsR l (bitsR l 0 0 1).2.1 (bitsR l 0 0 1).2.2 5).1 : Int) - 10, (sideR l (bitsR l (bitsR l 0 0 1).2.1 (bitsR l 0 0 1).2.2 5).2.1 (bitsR l (bitsR l 0 0 1).2.1 (bitsR l 0 0 1).2.2 5).2.2).1, (sideR l (bitsR l (bitsR l 0 0 1).2.1 (bitsR l 0 0 1).2.2 5).2.1 (bitsR l (bitsR l 0 0 1).2.1 (bitsR l 0 0 1).2.2 5).2.2).2.1, (sideR l (sideR l (bitsR l (bitsR l 0 0 1).2.1 (bitsR l 0 0 1).2.2 5).2.1 (bitsR l (bitsR l 0 0 1).2.1 (bitsR l 0 0 1).2.2 5).2.2).2.2.1 (sideR l (bitsR l (bitsR l 0 0 1).2.1 (bitsR l 0 0 1).2.2 5).2.1 (bitsR l (bitsR l 0 0 1).2.1 (bitsR l 0 0 1).2.2 5).2.2).2.2.2).1, (sideR l (sideR l (bitsR l (bitsR l 0 0 1).2.1 (bitsR l 0 0 1).2.2 5).2.1 (bitsR l (bitsR l 0 0 1).2.1 (bitsR l 0 0 1).2.2 5).2.2).2.2.1 (sideR l (bitsR l (bitsR l 0 0 1).2.1 (bitsR l 0 0 1).2.2 5).2.1 (bitsR l (bitsR l 0 0 1).2.1 (bitsR l 0 0 1).2.2 5).2.2).2.2.2).2.1⟩ (smN none l (sideR l (sideR l (bitsR l (bitsR l 0 0 1).2.1 (bitsR l 0 0 1).2.2 5).2.1 (bitsR l (bitsR l 0 0 1).2.1 (bitsR l 0 0 1).2.2 5).2.2).2.2.1 (sideR l (bitsR l (bitsR l 0 0 1).2.1 (bitsR l 0 0 1).2.2 5).2.1 (bitsR l (bitsR l 0 0 1).2.1 (bitsR l 0 0 1).2.2 5).2.2).2.2.2).2.2.1 (sideR l (sideR l (bitsR l (bitsR l 0 0 1).2.1 (bitsR l 0 0 1).2.2 5).2.1 (bitsR l (bitsR l 0 0 1).2.1 (bitsR l 0 0 1).2.2 5).2.2).2.2.1 (sideR l (bitsR l (bitsR l 0 0 1).2.1 (bitsR l 0 0 1).2.2 5).2.1 (bitsR l (bitsR l 0 0 1).2.1 (bitsR l 0 0 1).2.2 5).2.2).2.2.2).2.2.2 (1 + (sideR l (bitsR l (bitsR l 0 0 1).2.1 (bitsR l 0 0 1).2.2 5).2.1 (bitsR l (bitsR l 0 0 1).2.1 (bitsR l 0 0 1).2.2 5).2.2).2.1 + (sideR l (sideR l (bitsR l (bitsR l 0 0 1).2.1 (bitsR l 0 0 1).2.2 5).2.1 (bitsR l (bitsR l 0 0 1).2.1 (bitsR l 0 0 1).2.2 5).2.2).2.2.1 (sideR l (bitsR l (bitsR l 0 0 1).2.1 (bitsR l 0 0 1).2.2 5).2.1 (bitsR l (bitsR l 0 0 1).2.1 (bitsR l 0 0 1).2.2 5).2.2).2.2.2).2.1)) := by unfold docG; rw [if_neg h1]
  obtain ⟨w0, hw0⟩ : ∃ w0, w0 = w.alloc (.cells #[.int .i64 0, .int .u64 0, .int .i64 0, .slice none 0 0, .int .i64 0, .slice none 0 0, .int .i64 0, .int .i64 0] 75) := ⟨_, rfl⟩
  have k0 : Kept (fun _ => False) w w0 := by rw [hw0]; exact (Kept.refl _ _).alloc _
  have hG0 : GotB w0 w.heap.size zeroH (.slice none 0 0) (.slice none 0 0) 0 0 := by rw [hw0]; exact heap_alloc_new w _
  obtain ⟨w1, hw1⟩ : ∃ w1, w1 = w0.alloc (.cells #[.slice ao l.length c, .int .i64 0, .int .i64 0] 112) := ⟨_, rfl⟩
  have k1 : Kept (fun _ => False) w0 w1 := by rw [hw1]; exact (Kept.refl _ _).alloc _
  have hs1 : StB w1 w0.heap.size (.slice ao l.length c) 0 0 := by rw [hw1]; exact heap_alloc_new w0 _
  have hs0 : w0.heap.size = w.heap.size + 1 := by rw [hw0]; simp
  have hT1 := bitsR_le (l := l) (t := 0) (E := 0) (n := 1) (Nat.zero_le _)
  have HB := Lib.hid (stBits_any w0.heap.size ao c l 0 0 1 w1 hs1 (hv.kept (k0.trans k1) (fun _ _ x => x)) (fun e => by have := hvo _ e; omega) hc (Nat.zero_le _) hl (by omega))
  obtain ⟨R0, hR0⟩ : ∃ R, R = bitsR l 0 0 1 := ⟨_, rfl⟩
  rw [← hR0] at h1 hT1 HB hD
  obtain ⟨v1, t1, E1⟩ := R0
  dsimp only at h1 hT1 HB hD
  have q1 : ((v1 : Int) == 1) = false := beqF (by omega)
  unfold StTo at HB
  dsimp only at HB
  obtain ⟨Ln, hlv⟩ : ∃ k, k = l.length := ⟨_, rfl⟩
  rw [← hlv] at hw1 HB hv hvo hc ⊢
  obtain ⟨qg, hqg⟩ : ∃ q, q = w.heap.size := ⟨_, rfl⟩
  obtain ⟨qs, hqs⟩ : ∃ q, q = w0.heap.size := ⟨_, rfl⟩
  rw [← hqg] at hG0
  rw [← hqs] at HB
  have HGS := Lib.hid fun w2 w3 qh hx pv nv (hs : StB w2 qs (Value.slice ao Ln c) t1 E1) (k2 : Kept (fun k => k = qs) w1 w2) (k3 : Kept (fun _ => False) w2 w3) (hh : HistBox w3 qh hx pv nv) (hqh : w2.heap.size ≤ qh) =>
    (show GS w w3 qg qs qh (Value.slice ao Ln c) l t1 E1 hx pv nv from
      have kk : Kept (fun k => k = qs) w1 w3 := k2.step k3 (fun _ _ e => e.elim)
      have hsz := k2.size
      have hsz1 := k1.size
      ⟨(hG0.same k1 (fun x => x)).same kk (fun e => by omega), hs.same k3 (fun x => x), hh, (hv.kept (k0.trans k1) (fun _ _ x => x)).kept kk (fun j e e2 => by have := hvo _ e; omega), (k0.trans k1).new kk (by omega), by omega, by omega, by omega, ⟨ao, c, by rw [hlv], by rw [← hlv]; exact hc⟩, fun j e => by have := hvo _ e; omega, hT1, hl⟩)
  have HQ := Lib.hid (And.intro hqg hqs)
  have HW0 := Lib.hid hw0
  have HW1 := Lib.hid hw1
  have HT1 := Lib.hid hT1
  have HBI := Lib.hid fun w' qh hx pv nv (X : GS w w' qg qs qh (Value.slice ao Ln c) l t1 E1 hx pv nv) => gs_bits X 5 (by omega)
  have hb5 := bitsR_five l t1 E1
  have ht2 := bitsR_le (n := 5) (E := E1) HT1.out
  obtain ⟨RB, hRB⟩ : ∃ R, R = bitsR l t1 E1 5 := ⟨_, rfl⟩
  rw [← hRB] at HBI hb5 ht2 hD
  obtain ⟨M5, t2, E2⟩ := RB
  unfold GTo at HBI
  dsimp only at HBI hb5 ht2 hD
  have HS1 := Lib.hid fun w' qh hx pv nv (X : GS w w' qg qs qh (Value.slice ao Ln c) l t2 E2 hx pv nv) => gs_side X
  have hsa := sideR_le (E := E2) ht2
  obtain ⟨RS, hRS⟩ : ∃ R, R = sideR l t2 E2 := ⟨_, rfl⟩
  rw [← hRS] at HS1 hsa hD
  obtain ⟨PO, PN, t3, E3⟩ := RS
  dsimp only at HS1 hsa hD
  have HS2 := Lib.hid fun w' qh hx pv nv (X : GS w w' qg qs qh (Value.slice ao Ln c) l t3 E3 hx pv nv) => gs_side X
  have hsb := sideR_le (E := E3) hsa.1
  obtain ⟨RT, hRT⟩ : ∃ R, R = sideR l t3 E3 := ⟨_, rfl⟩
  rw [← hRT] at HS2 hsb hD
  obtain ⟨NO, NN, t4, E4⟩ := RT
  dsimp only at HS2 hsb hD
  obtain ⟨SC, hSC⟩ : ∃ z : Int, z = (M5 : Int) - 10 := ⟨_, rfl⟩
  rw [← hSC] at hD
  have wS : IntKind.i64.wrap ((M5 : Int) - 10) = SC := by rw [IntWalk.i64_in _ ⟨by omega, by omega⟩]; omega
  have hso : (⟨SC, PO, PN, NO, NN⟩ : ShV).ok := ⟨⟨by show -9223372036854775808 ≤ SC; omega, by show SC ≤ 9223372036854775807; omega⟩, hsa.2.2, hsb.2.2, hsa.2.1, hsb.2.1⟩
  have hpn := hsa.2.1
  have hnn := hsb.2.1
  obtain ⟨G, hG⟩ : ∃ g, g = lastH L := ⟨_, rfl⟩
  rw [← hG] at hD ⊢
  obtain ⟨K1, hK1⟩ : ∃ k, k = 1 + PN := ⟨_, rfl⟩
  obtain ⟨N, hN⟩ : ∃ k, k = 1 + PN + NN := ⟨_, rfl⟩
  rw [← hN] at hD
  have wA : IntKind.i64.wrap (1 + (PN : Int)) = (K1 : Int) := by rw [IntWalk.i64_in _ ⟨by omega, by omega⟩]; omega
  have wB : IntKind.i64.wrap ((K1 : Int) + (NN : Int)) = (N : Int) := by rw [IntWalk.i64_in _ ⟨by omega, by omega⟩]; omega
  have HN := Lib.hid (show N ≤ 400 ∧ K1 = 1 + PN ∧ N = 1 + PN + NN ∧ 0 < N from ⟨by omega, hK1, hN, by omega⟩)
  have HSO := Lib.hid hso
  have HD := Lib.hid hD
  have HGL := Lib.hid hG
  have HRR := Lib.hid hr
  have HIN := Lib.hid hin
  have HLN := Lib.hid hLn
  obtain ⟨n, hln⟩ : ∃ n, n = L.length := ⟨_, rfl⟩
  rw [← hln] at HD ⊢
  have HLL := Lib.hid hln
  clear hv hvo hc hl hw0 k0 hG0 hw1 k1 hs1 hs0 hT1 hlv hqg hqs hR0 hpn hnn hK1 hN hso hD hb5 ht2 hRB hsa hRS hsb hRT hSC hG hln h1 hr hin hLn
  go_enter Tryd.func45, Tryd.ntmps45
  go_upto_region 1 with fail
  rw [← HW0.out, ← HQ.out.1]
  go_upto_region 2 with fail
  rw [← HW1.out, ← HQ.out.2]
  go_wp2_with fail
  refine HB.out.mono ?_
  rintro e w2 ⟨rfl, hs, hk⟩
  obtain ⟨w3, hw3⟩ : ∃ w', w' = w2.alloc (.cells #[.int .i64 0, .int .u64 0, .int .i64 0, .slice none 0 0, .int .i64 0, .slice none 0 0] 62) := ⟨_, rfl⟩
  have k3 : Kept (fun _ => False) w2 w3 := by rw [hw3]; exact (Kept.refl _ _).alloc _
  obtain ⟨qh, hqh⟩ : ∃ q, q = w2.heap.size := ⟨_, rfl⟩
  have HX3 := Lib.hid (HGS.out w2 w3 qh zeroH (.slice none 0 0) (.slice none 0 0) hs hk k3 (by rw [hw3, hqh]; exact heap_alloc_new w2 _) (by omega))
  have HW3 := Lib.hid hw3
  clear hs hk hw3 k3 HGS
  go_upto_region 6 with fail
  rw [← HW3.out, ← hqh]
  clear hqh
  go_wp2_with fail
  refine (HBI.out w3 qh _ _ _ HX3.out).mono ?_
  rintro e w4 ⟨rfl, X4, k4⟩
  have HX4 := Lib.hid X4
  clear X4 k4
  obtain ⟨f0, f1, f2, f3, f4, f5⟩ := HX4.out.h.f
  obtain ⟨y0, y1, y2, y3, y4, y5⟩ := HX4.out.h.c
  try dsimp only [zeroH] at y0 y1 y2 y3 y4 y5
  obtain ⟨w5, hw5⟩ : ∃ w', w' = w4.setCell ⟨qh, 0, none⟩ (.int .i64 SC) := ⟨_, rfl⟩
  have HX5 := Lib.hid (HX4.out.hset (show HistBox w5 qh ⟨SC, 0, 0, [], 0, []⟩ (.slice none 0 0) (.slice none 0 0) by rw [hw5]; exact HX4.out.h.set0 SC) (show Kept (fun k => k = qh) w4 w5 by rw [hw5]; exact (Kept.refl (fun k => k = qh) w4).setCell (p := ⟨qh, 0, none⟩) (fun _ => rfl) _))
  have HW5 := Lib.hid hw5
  clear hw5
  go_upto_region 11 with fail
  rw [← HW5.out]
  clear f0 f1 f2 f3 f4 f5 y0 y1 y2 y3 y4 y5
  go_wp2_with fail
  refine (HS1.out w5 qh _ _ _ HX5.out).mono ?_
  rintro e w6 ⟨pa, pc, rfl, X6, k6⟩
  have HX6 := Lib.hid X6
  clear X6 k6
  obtain ⟨f0, f1, f2, f3, f4, f5⟩ := HX6.out.h.f
  obtain ⟨y0, y1, y2, y3, y4, y5⟩ := HX6.out.h.c
  try dsimp only [zeroH] at y0 y1 y2 y3 y4 y5
  obtain ⟨w7, hw7⟩ : ∃ w', w' = (w6.setCell ⟨qh, 2, none⟩ (.int .i64 PO)).setCell ⟨qh, 3, none⟩ (.slice pa PN pc) := ⟨_, rfl⟩
  have HX7 := Lib.hid (HX6.out.hset (show HistBox w7 qh ⟨SC, 0, PO, [], 0, []⟩ (.slice pa PN pc) (.slice none 0 0) by rw [hw7]; exact HX6.out.h.setP PO (.slice pa PN pc)) (show Kept (fun k => k = qh) w6 w7 by rw [hw7]; exact set2_kept _ _ _ _ _ _))
  have HW7 := Lib.hid hw7
  clear hw7
  go_upto_region 12 with fail
  rw [← HW7.out]
  clear f0 f1 f2 f3 f4 f5 y0 y1 y2 y3 y4 y5
  go_wp2_with fail
  refine (HS2.out w7 qh _ _ _ HX7.out).mono ?_
  rintro e w8 ⟨na, nc, rfl, X8, k8⟩
  have HX8 := Lib.hid X8
  clear X8 k8
  obtain ⟨f0, f1, f2, f3, f4, f5⟩ := HX8.out.h.f
  obtain ⟨y0, y1, y2, y3, y4, y5⟩ := HX8.out.h.c
  try dsimp only [zeroH] at y0 y1 y2 y3 y4 y5
  obtain ⟨wb, hwb⟩ : ∃ w', w' = (w8.setCell ⟨qh, 4, none⟩ (.int .i64 NO)).setCell ⟨qh, 5, none⟩ (.slice na NN nc) := ⟨_, rfl⟩
  have HX9 := Lib.hid (HX8.out.hset (show HistBox wb qh ⟨SC, 0, PO, [], NO, []⟩ (.slice pa PN pc) (.slice na NN nc) by rw [hwb]; exact HX8.out.h.setN NO (.slice na NN nc)) (show Kept (fun k => k = qh) w8 wb by rw [hwb]; exact set2_kept _ _ _ _ _ _))
  have HWB := Lib.hid hwb
  clear hwb
  go_upto_region 13 with fail
  rw [← HWB.out]
  clear f0 f1 f2 f3 f4 f5 y0 y1 y2 y3 y4 y5
  obtain ⟨x0, x1, x2, x3, x4, x5⟩ := HX9.out.h.c
  dsimp only at x0 x1 x2 x3 x4 x5
  have HWW := Lib.hid (show w.heap.size ≤ wb.heap.size from HX9.out.k.size)
  go_wp2
  go_loopg [9, 11] N (fun g s9 s11 wr => ∃ i : Nat, i ≤ N ∧ g = N - i ∧ s11 = .int .i64 i ∧ GS w wr qg qs qh (Value.slice ao Ln c) l (smN none l t4 E4 i).2.1 (smN none l t4 E4 i).2.2 ⟨SC, 0, PO, [], NO, []⟩ (.slice pa PN pc) (.slice na NN nc) ∧ OwnU wb wr s9 (smN none l t4 E4 i).1 ∧ wb.heap.size ≤ wr.heap.size)
  case atStart => exact ⟨0, Nat.zero_le _, rfl, rfl, HX9.out, OwnU.nil _ _, Nat.le_refl _⟩
  case round =>
    obtain ⟨i, hiN, rfl, rfl, hX, hO, hsz⟩ := hrel
    have hsl := smN_len none l t4 E4 i
    obtain ⟨ax, cx, ex⟩ := hO.slice
    rw [hsl] at ex
    subst ex
    clear x0 x1 x2 x3 x4 x5
    have HSZ := Lib.hid hsz
    by_cases hd : i < N
    · have hdi : (i : Int) < (N : Int) := by omega
      have HDI := Lib.hid hd
      have wi : IntKind.i64.wrap ((i : Int) + 1) = ((i + 1 : Nat) : Int) := by rw [IntWalk.i64_in _ ⟨by omega, by have := HN.out; omega⟩]; omega
      have hsu := smN_succ none l t4 E4 i
      obtain ⟨s, hs⟩ : ∃ s, s = (smN none l t4 E4 i) := ⟨_, rfl⟩
      rw [← hs] at hX hO hsl hsu
      obtain ⟨vs, T, EE⟩ := s
      dsimp only at hX hO hsl hsu
      have HX := Lib.hid hX
      have HO := Lib.hid hO
      have HSL := Lib.hid hsl
      have HSM := Lib.hid (gs_small hX)
      have hu := smallR_u64 l T EE
      obtain ⟨RR, hRR⟩ : ∃ R, R = smallR l T EE := ⟨_, rfl⟩
      rw [← hRR] at HSM hsu hu
      obtain ⟨v, T2, EE2⟩ := RR
      unfold GTo at HSM
      dsimp only at HSM hsu hu
      have HSU := Lib.hid hsu
      clear hsu hs hd hX hO hsl hu hRR
      go_wp2_with fail
      refine HSM.out.mono ?_
      rintro e w6 ⟨rfl, X6, k6⟩
      have HX6 := Lib.hid X6
      have HO6 := Lib.hid (HO.out.kept k6 (fun k e e2 => own_box HO.out HX.out.s (by decide) (by rw [e, e2])))
      have HS6 := Lib.hid (show wb.heap.size ≤ w6.heap.size by have := HSZ.out; have := k6.size; omega)
      clear X6 k6
      have HX7 := HX6
      have HO7 := HO6
      have HS7 := HS6
      have k8 : Kept (fun _ => False) w6 (w6.alloc (.cells #[.int .u64 (v : Int)] 28)) := (Kept.refl _ _).alloc _
      have HX8 := Lib.hid (HX7.out.on k8)
      have HO8 := Lib.hid (HO7.out.kept k8 (fun _ _ x => x))
      have HS8 := Lib.hid (show wb.heap.size ≤ (w6.alloc (.cells #[.int .u64 (v : Int)] 28)).heap.size by have := k8.size; have := HS7.out; omega)
      clear k8
      have HLV := Lib.hid (show vs.length ≤ 1000000 by rw [HSL.out]; have := HDI.out; have := HN.out; omega)
      go_wp2_with (at_builtin; refine wpList_ownU rfl (.tmp 74) (.tmp 76) rfl wb (.slice ax i cx) vs rfl HO8.out HS8.out _ v rfl (src_oneU w6 (.int .u64 (v : Int)) rfl) HLV.out ?_; intro v9 w9 ho9 hk9 hat9; have HO9 := Lib.hid ho9; have HX9' := Lib.hid (HX8.out.grown HO8.out HWW.out hk9); have HS9 := Lib.hid (show wb.heap.size ≤ w9.heap.size by have := HS8.out; have := hk9.size; omega); clear ho9 hk9 hat9)
      go_roundg (N - (i + 1))
      case measure => have := HDI.out; omega
      case rel => exact ⟨i + 1, HDI.out, rfl, rfl, by rw [HSU.out]; exact HX9'.out, by rw [HSU.out]; exact HO9.out, HS9.out⟩
    · obtain rfl : N = i := by omega
      have hU := smN_u64 none l t4 E4 N
      obtain ⟨s, hs⟩ : ∃ s, s = (smN none l t4 E4 N) := ⟨_, rfl⟩
      rw [← hs] at hX hO hsl hU HD
      obtain ⟨vs, T, EE⟩ := s
      dsimp only at hX hO hsl hU HD
      have HX := Lib.hid hX
      have HO := Lib.hid hO
      have HSL := Lib.hid hsl
      have HU := Lib.hid hU
      obtain ⟨⟨s0, s1, s2⟩, g1, g2⟩ := hX.s.c
      clear hX hO hsl hU hs hd hiN
      by_cases hE : EE = 0
      · have qE : ((EE : Int) != 0) = false := bneF (by omega)
        subst hE
        have hcap : N ≤ cx := by have h := own_cap HO.out; rw [HSL.out] at h; exact h
        obtain ⟨g4, o4, ha4, hc4⟩ := HO.out.at_.elem (uvals_get (l := vs) (j := 0) (by rw [HSL.out]; have := HN.out; omega))
        subst ha4
        obtain ⟨v0, hv0⟩ : ∃ v, v = vs.getD 0 0 := ⟨_, rfl⟩
        rw [← hv0, Nat.add_zero] at hc4
        have HC4 := Lib.hid hc4
        have HMK := Lib.hid (show mkH ⟨SC, PO, PN, NO, NN⟩ vs = ⟨SC, v0, PO, (vs.drop 1).take PN, NO, vs.drop (1 + PN)⟩ by rw [hv0]; rfl)
        have hat := mkH_at (s := ⟨SC, PO, PN, NO, NN⟩) HO.out.at_ HN.out.2.2.1 hcap
        dsimp only at hat
        obtain ⟨iU, hiU, hzU0, hzU1, hzU2⟩ := info_parts Tryd.infoU64
        have hcut : ∀ w', _ := fun w' => run_cut (P := Tryd.prog) Tryd.underlying22 hiU hzU1 (some ⟨g4, o4, none⟩) N cx 1 (1 + PN) (by omega) (by have := HN.out; omega) w'
        have hcut2 : ∀ w', _ := fun w' => run_cutL (P := Tryd.prog) Tryd.underlying22 hiU hzU1 (some ⟨g4, o4, none⟩) N cx (1 + PN) (by have := HN.out; omega) w'
        rw [← HN.out.2.1] at hcut hcut2 hat
        rw [show K1 - 1 = PN by have := HN.out; omega] at hcut
        rw [show N - K1 = NN by have := HN.out; omega] at hcut2
        obtain ⟨ap, hap⟩ : ∃ a, a = (if cx = 1 then some (⟨g4, o4, none⟩ : Addr) else (some (⟨g4, o4, none⟩ : Addr)).map (·.add 1)) := ⟨_, rfl⟩
        obtain ⟨an, han⟩ : ∃ a, a = (if cx = K1 then some (⟨g4, o4, none⟩ : Addr) else (some (⟨g4, o4, none⟩ : Addr)).map (·.add K1)) := ⟨_, rfl⟩
        rw [← hap] at hcut hat
        rw [← han] at hcut2 hat
        obtain ⟨cp, hcp⟩ : ∃ a, a = cx - 1 := ⟨_, rfl⟩
        obtain ⟨cn, hcn⟩ : ∃ a, a = cx - K1 := ⟨_, rfl⟩
        rw [← hcp] at hcut hat
        rw [← hcn] at hcut2 hat
        have hcutE : ∀ w', (Instr.slice 22 (.slice (some ⟨g4, o4, none⟩) N cx) (some (.int .i64 1)) (some (.int .i64 (K1 : Int))) none).run Tryd.prog w' = .ok (.slice ap PN cp) w' := hcut
        have hbl : (Value.slice ap PN cp).ownBlock ≠ some qh ∧ (Value.slice an NN cn).ownBlock ≠ some qh := ⟨fun e => by rw [hap, cut_block _ _ _ _ N _ cx] at e; exact own_box HO.out HX.out.h (by decide) e, fun e => by rw [han, cut_block _ _ _ _ N _ cx] at e; exact own_box HO.out HX.out.h (by decide) e⟩
        have HBG := Lib.hid (show (Value.slice ap PN cp).ownBlock ≠ some qg ∧ (Value.slice an NN cn).ownBlock ≠ some qg from ⟨fun e => by rw [hap, cut_block _ _ _ _ N _ cx] at e; exact own_box HO.out HX.out.g (by decide) e, fun e => by rw [han, cut_block _ _ _ _ N _ cx] at e; exact own_box HO.out HX.out.g (by decide) e⟩)
        have HNC := Lib.hid (show NewC w.heap.size (.slice ap PN cp) (.slice an NN cn) from by rintro k (e | e); (rw [hap, cut_block _ _ _ _ N _ cx] at e; have := (ownsRow_lt HO.out e).2; have := HWW.out; omega); (rw [han, cut_block _ _ _ _ N _ cx] at e; have := (ownsRow_lt HO.out e).2; have := HWW.out; omega))
        have HAT := Lib.hid hat
        obtain ⟨x0, x1, x2, x3, x4, x5⟩ := HX.out.h.c
        dsimp only at x0 x1 x2 x3 x4 x5
        obtain ⟨f0, f1, f2, f3, f4, f5⟩ := HX.out.h.f
        have n0 : (0 : Int) < (N : Int) := by have := HN.out; omega
        obtain ⟨w6, hw6⟩ : ∃ w', w' = ((wr.setCell ⟨qh, 1, none⟩ (.int .u64 (v0 : Int))).setCell ⟨qh, 3, none⟩ (.slice ap PN cp)).setCell ⟨qh, 5, none⟩ (.slice an NN cn) := ⟨_, rfl⟩
        have k6 : Kept (fun k => k = qh) wr w6 := by rw [hw6]; exact setC_kept _ _ _ _ _
        have HX6 := Lib.hid (HX.out.hset (show HistBox w6 qh ⟨SC, v0, PO, [], NO, []⟩ (.slice ap PN cp) (.slice an NN cn) by rw [hw6]; exact HX.out.h.setC v0 _ _) k6)
        have HA6 := Lib.hid (HAT.out.kept k6 (fun k e e2 => hbl.1 (by rw [e, e2])) (fun k e e2 => hbl.2 (by rw [e, e2])))
        have HW6 := Lib.hid hw6
        clear hw6 k6 hat hbl hap han hcp hcn hv0 hcut
        go_upto_region 28 with fail
        rw [← HW6.out]
        clear x0 x1 x2 x3 x4 x5 f0 f1 f2 f3 f4 f5 hc4 hcutE hcut2
        obtain ⟨x0, x1, x2, x3, x4, x5⟩ := HX6.out.h.c
        dsimp only at x0 x1 x2 x3 x4 x5
        have hok := mkH_ok (s := ⟨SC, PO, PN, NO, NN⟩) HSO.out HU.out
        have hlen : (mkH ⟨SC, PO, PN, NO, NN⟩ vs).pl.length = PN ∧ (mkH ⟨SC, PO, PN, NO, NN⟩ vs).nl.length = NN := by have h := HA6.out; exact ⟨by rw [HMK.out]; show ((vs.drop 1).take PN).length = PN; rw [List.length_take, List.length_drop, HSL.out]; have := HN.out; omega, by rw [HMK.out]; show (vs.drop (1 + PN)).length = NN; rw [List.length_drop, HSL.out]; have := HN.out; omega⟩
        have HCK := Lib.hid fun w' (k : HistAt w' (mkH ⟨SC, PO, PN, NO, NN⟩ vs) (.slice ap PN cp) (.slice an NN cn)) => refCheck_any (mkH ⟨SC, PO, PN, NO, NN⟩ vs) _ _ w' k hok (by rw [hlen.1]; have := HN.out; omega) (by rw [hlen.2]; have := HN.out; omega)
        have HER := Lib.hid (show ∀ (x : Nat), x = (mkH ⟨SC, PO, PN, NO, NN⟩ vs).err → x = (mkH ⟨SC, PO, PN, NO, NN⟩ vs).err from fun _ h => h)
        obtain ⟨ER, hER⟩ : ∃ e, e = (mkH ⟨SC, PO, PN, NO, NN⟩ vs).err := ⟨_, rfl⟩
        rw [← hER] at HCK
        have HSHE := Lib.hid (show shOf (mkH ⟨SC, PO, PN, NO, NN⟩ vs) = ⟨SC, PO, PN, NO, NN⟩ from (cnt_mk ⟨SC, PO, PN, NO, NN⟩ vs (by rw [HSL.out]; exact HN.out.2.2.1)).2)
        obtain ⟨HH, hHH⟩ : ∃ h, h = mkH ⟨SC, PO, PN, NO, NN⟩ vs := ⟨_, rfl⟩
        rw [← hHH] at HCK HMK HSHE HA6 hER
        have HRES := Lib.hid (HD.out.trans (show finD n G false ⟨SC, PO, PN, NO, NN⟩ (vs, T, 0) = (if ER ≠ 0 then (zeroH, 0, ER) else if false = false ∧ 0 < n ∧ ⟨SC, PO, PN, NO, NN⟩ = shOf G then (zeroH, 0, 3) else (HH, T, 0)) by unfold finD; rw [hER, hHH]; exact if_neg (fun e => e rfl)))
        have HCK2 := HCK
        unfold histV at HCK2
        rw [HMK.out] at HCK2
        dsimp only at HCK2
        have HAM := Lib.hid (show ∀ w', HistAt w' HH (.slice ap PN cp) (.slice an NN cn) → HistAt w' ⟨SC, v0, PO, (vs.drop 1).take PN, NO, vs.drop (1 + PN)⟩ (.slice ap PN cp) (.slice an NN cn) from fun w' h => by rw [HMK.out] at h; exact h)
        clear hok hlen hER hHH HER HCK
        go_wp2_with fail
        refine (HCK2.out w6 (HAM.out w6 HA6.out)).mono ?_
        rintro e w7 ⟨rfl, k7⟩
        have HX7 := Lib.hid (HX6.out.on k7)
        have HA7 := Lib.hid (HA6.out.on k7)
        clear k7 x0 x1 x2 x3 x4 x5
        by_cases hER : ER = 0
        · have qR : ((ER : Int) != 0) = false := bneF (by omega)
          have HR1 := Lib.hid (HRES.out.trans (if_neg (fun e => e hER)))
          clear hER
          by_cases hn : 0 < n
          · obtain ⟨m, hm⟩ : ∃ m, m + 1 = n := ⟨n - 1, by omega⟩
            have hmL : m < L.length := by have := HLL.out; omega
            have hLm : L[m]? = some L[m] := List.getElem?_eq_getElem hmL
            obtain ⟨P, hP⟩ : ∃ p, p = L[m] := ⟨_, rfl⟩
            rw [← hP] at hLm
            have hlast : G = P.h := HGL.out.trans (lastH_at (by rw [← HLL.out, ← hm]; exact hLm))
            obtain ⟨gb, ob, rfl, hrec⟩ := HRR.out (by have := HLL.out; omega)
            have hPin := HIN.out P (List.mem_of_getElem? hLm)
            have HEL := Lib.hid (hrec m P hLm)
            have HPA := Lib.hid hPin.1
            have hn1 := HLN.out
            rw [← HLL.out] at hn1
            have wm : IntKind.i64.wrap ((n : Int) - 1) = (m : Int) := by rw [IntWalk.i64_in _ ⟨by omega, by omega⟩]; omega
            have hmn : (m : Int) < (n : Int) := by omega
            have hm0 : (0 : Int) ≤ (m : Int) := by omega
            have zg : (0 : Int) < (n : Int) := by omega
            have zd : decide ((0 : Int) < (n : Int)) = true := decide_eq_true (by omega)
            have hmnN : m < n := by omega
            have zN : decide (0 < n) = true := decide_eq_true (by omega)
            rw [hlast] at HR1
            have HLK := Lib.hid fun w' (k1 : HistAt w' P.h P.pv P.nv) (k2 : HistAt w' HH (.slice ap PN cp) (.slice an NN cn)) => refAlike_any P.h HH _ _ _ _ w' k1 k2
            have hiff : decide (alikeH P.h HH) = decide (⟨SC, PO, PN, NO, NN⟩ = shOf P.h) := by congr 1; rw [alike_sh, HSHE.out]
            rw [hiff] at HLK
            obtain ⟨AL, hAL⟩ : ∃ b, b = decide (⟨SC, PO, PN, NO, NN⟩ = shOf P.h) := ⟨_, rfl⟩
            rw [← hAL] at HLK
            have HR2 := Lib.hid (show docG n G l = if AL = true then (zeroH, 0, 3) else (HH, T, 0) from by
              rw [hlast, HR1.out, hAL]
              by_cases h : ⟨SC, PO, PN, NO, NN⟩ = shOf P.h
              · rw [if_pos ⟨by first | rfl | trivial, hn, h⟩, if_pos (decide_eq_true h)]
              · rw [if_neg (fun e => h e.2.2), if_neg (by rw [decide_eq_false h]; decide)])
            obtain ⟨⟨gsc, gze, gpo, gpl, gno, gnl⟩, a1, c1, a2, c2⟩ := P
            unfold histV HP.pv HP.nv at HLK
            unfold HP.pv HP.nv at HPA
            dsimp only at HLK HPA HEL
            have HLK2 := Lib.hid fun w' (k1 : Kept (fun _ => False) w w') (k2 : HistAt w' HH (.slice ap PN cp) (.slice an NN cn)) => HLK.out w' (HPA.out.on k1) k2
            rw [HMK.out] at HLK2
            dsimp only at HLK2
            clear hm hmL hLm hP hlast hrec hPin hn1 hiff hAL hn HLK HR1
            go_upto_region 31 with fail
            obtain ⟨w8, hw8⟩ : ∃ w', w' = w7.drew := ⟨_, rfl⟩
            have k8 : Kept (fun _ => False) w7 w8 := by rw [hw8]; exact (Kept.refl _ _).drew
            have HX8 := Lib.hid (HX7.out.on k8)
            have HA8 := Lib.hid (HA7.out.on k8)
            have HW8 := Lib.hid hw8
            clear k8 hw8
            have HSSa : Hid ((fun w' => w'.cell? ⟨qh, 0, none⟩ = some (.int .i64 SC) ∧ w'.cell? ⟨qh, 1, none⟩ = some (.int .u64 (v0 : Int)) ∧ w'.cell? ⟨qh, 2, none⟩ = some (.int .i64 PO) ∧ w'.cell? ⟨qh, 3, none⟩ = some (.slice ap PN cp) ∧ w'.cell? ⟨qh, 4, none⟩ = some (.int .i64 NO) ∧ w'.cell? ⟨qh, 5, none⟩ = some (.slice an NN cn) ∧ w'.cell? ⟨gb, ob + m * 6, none⟩ = some (.int .i64 gsc) ∧ w'.cell? ⟨gb, ob + m * 6 + 1, none⟩ = some (.int .u64 (gze : Int)) ∧ w'.cell? ⟨gb, ob + m * 6 + 2, none⟩ = some (.int .i64 gpo) ∧ w'.cell? ⟨gb, ob + m * 6 + 3, none⟩ = some (.slice a1 gpl.length c1) ∧ w'.cell? ⟨gb, ob + m * 6 + 4, none⟩ = some (.int .i64 gno) ∧ w'.cell? ⟨gb, ob + m * 6 + 5, none⟩ = some (.slice a2 gnl.length c2)) w8) := by
              obtain ⟨x0, x1, x2, x3, x4, x5⟩ := HistBox.c (h := ⟨SC, v0, PO, [], NO, []⟩) HX8.out.h
              obtain ⟨z0, z1, z2, z3, z4, z5⟩ := HElt.keptS HEL.out HX8.out.k (fun x => x)
              exact Lib.hid ⟨x0, x1, x2, x3, x4, x5, z0, z1, z2, z3, z4, z5⟩
            have HSSb := HSSa
            rw [HW8.out] at HSSb
            refine AnyBut.start (S := fun w' => w'.cell? ⟨qh, 0, none⟩ = some (.int .i64 SC) ∧ w'.cell? ⟨qh, 1, none⟩ = some (.int .u64 (v0 : Int)) ∧ w'.cell? ⟨qh, 2, none⟩ = some (.int .i64 PO) ∧ w'.cell? ⟨qh, 3, none⟩ = some (.slice ap PN cp) ∧ w'.cell? ⟨qh, 4, none⟩ = some (.int .i64 NO) ∧ w'.cell? ⟨qh, 5, none⟩ = some (.slice an NN cn) ∧ w'.cell? ⟨gb, ob + m * 6, none⟩ = some (.int .i64 gsc) ∧ w'.cell? ⟨gb, ob + m * 6 + 1, none⟩ = some (.int .u64 (gze : Int)) ∧ w'.cell? ⟨gb, ob + m * 6 + 2, none⟩ = some (.int .i64 gpo) ∧ w'.cell? ⟨gb, ob + m * 6 + 3, none⟩ = some (.slice a1 gpl.length c1) ∧ w'.cell? ⟨gb, ob + m * 6 + 4, none⟩ = some (.int .i64 gno) ∧ w'.cell? ⟨gb, ob + m * 6 + 5, none⟩ = some (.slice a2 gnl.length c2)) (k := 17) (by kernel_rfl) ?_
            refine AnyBut.takeS (i := 0) (v := ?v24) rfl (by kernel_rfl) (Nat.le_of_eq (by kernel_rfl)) (by kernel_rfl) (by kernel_rfl) (fun _ _ _ h => h) (HSSb.out) (Or.inl ⟨by kernel_rfl, ?hy24⟩) ?r24
            case hy24 =>
              intro w hSw
              try dsimp only at hSw
              go_simp
              try with_reducible rfl
            try simp only [Act.put, List.getElem_toArray, List.getElem_cons_zero, List.setIfInBounds_toArray, List.set_cons_zero, List.set_cons_succ]
            refine AnyBut.takeS (i := 1) (v := ?v25) rfl (by kernel_rfl) (Nat.le_of_eq (by kernel_rfl)) (by kernel_rfl) (by kernel_rfl) (fun _ _ _ h => h) (HSSb.out) (Or.inl ⟨by kernel_rfl, ?hy25⟩) ?r25
            case hy25 =>
              intro w hSw
              try dsimp only at hSw
              go_simp
              try with_reducible rfl
            try simp only [Act.put, List.getElem_toArray, List.getElem_cons_succ, List.getElem_cons_zero, List.setIfInBounds_toArray, List.set_cons_zero, List.set_cons_succ]
            refine AnyBut.takeS (i := 2) (v := ?v26) rfl (by kernel_rfl) (Nat.le_of_eq (by kernel_rfl)) (by kernel_rfl) (by kernel_rfl) (fun _ _ _ h => h) (HSSb.out) (Or.inl ⟨by kernel_rfl, ?hy26⟩) ?r26
            case hy26 =>
              intro w hSw
              try dsimp only at hSw
              go_simp
              try with_reducible rfl
            try simp only [Act.put, List.getElem_toArray, List.getElem_cons_succ, List.getElem_cons_zero, List.setIfInBounds_toArray, List.set_cons_zero, List.set_cons_succ]
            refine AnyBut.takeS (i := 3) (v := ?v27) rfl (by kernel_rfl) (Nat.le_of_eq (by kernel_rfl)) (by kernel_rfl) (by kernel_rfl) (fun _ _ _ h => h) (HSSb.out) (Or.inl ⟨by kernel_rfl, ?hy27⟩) ?r27
            case hy27 =>
              intro w hSw
              try dsimp only at hSw
              go_simp
              try with_reducible rfl
            try simp only [Act.put, List.getElem_toArray, List.getElem_cons_succ, List.getElem_cons_zero, List.setIfInBounds_toArray, List.set_cons_zero, List.set_cons_succ]
            refine AnyBut.takeS (i := 4) (v := ?v28) rfl (by kernel_rfl) (Nat.le_of_eq (by kernel_rfl)) (by kernel_rfl) (by kernel_rfl) (fun _ _ _ h => h) (HSSb.out) (Or.inl ⟨by kernel_rfl, ?hy28⟩) ?r28
            case hy28 =>
              intro w hSw
              try dsimp only at hSw
              go_simp
              try with_reducible rfl
            try simp only [Act.put, List.getElem_toArray, List.getElem_cons_succ, List.getElem_cons_zero, List.setIfInBounds_toArray, List.set_cons_zero, List.set_cons_succ]
            refine AnyBut.takeS (i := 5) (v := ?v29) rfl (by kernel_rfl) (Nat.le_of_eq (by kernel_rfl)) (by kernel_rfl) (by kernel_rfl) (fun _ _ _ h => h) (HSSb.out) (Or.inl ⟨by kernel_rfl, ?hy29⟩) ?r29
            case hy29 =>
              intro w hSw
              try dsimp only at hSw
              go_simp
              try with_reducible rfl
            try simp only [Act.put, List.getElem_toArray, List.getElem_cons_succ, List.getElem_cons_zero, List.setIfInBounds_toArray, List.set_cons_zero, List.set_cons_succ]
            refine AnyBut.takeS (i := 6) (v := ?v30) rfl (by kernel_rfl) (Nat.le_of_eq (by kernel_rfl)) (by kernel_rfl) (by kernel_rfl) (fun _ _ _ h => h) (HSSb.out) (Or.inl ⟨by kernel_rfl, ?hy30⟩) ?r30
            case hy30 =>
              intro w hSw
              try dsimp only at hSw
              go_simp
              try with_reducible rfl
            try simp only [Act.put, List.getElem_toArray, List.getElem_cons_succ, List.getElem_cons_zero, List.setIfInBounds_toArray, List.set_cons_zero, List.set_cons_succ]
            refine AnyBut.takeS (i := 7) (v := ?v31) rfl (by kernel_rfl) (Nat.le_of_eq (by kernel_rfl)) (by kernel_rfl) (by kernel_rfl) (fun _ _ _ h => h) (HSSb.out) (Or.inl ⟨by kernel_rfl, ?hy31⟩) ?r31
            case hy31 =>
              intro w hSw
              try dsimp only at hSw
              go_simp
              try with_reducible rfl
            try simp only [Act.put, List.getElem_toArray, List.getElem_cons_succ, List.getElem_cons_zero, List.setIfInBounds_toArray, List.set_cons_zero, List.set_cons_succ]
            refine AnyBut.takeS (i := 8) (v := ?v32) rfl (by kernel_rfl) (Nat.le_of_eq (by kernel_rfl)) (by kernel_rfl) (by kernel_rfl) (fun _ _ _ h => h) (HSSb.out) (Or.inl ⟨by kernel_rfl, ?hy32⟩) ?r32
            case hy32 =>
              intro w hSw
              try dsimp only at hSw
              go_simp
              try with_reducible rfl
            try simp only [Act.put, List.getElem_toArray, List.getElem_cons_succ, List.getElem_cons_zero, List.setIfInBounds_toArray, List.set_cons_zero, List.set_cons_succ]
            refine AnyBut.takeS (i := 9) (v := ?v33) rfl (by kernel_rfl) (Nat.le_of_eq (by kernel_rfl)) (by kernel_rfl) (by kernel_rfl) (fun _ _ _ h => h) (HSSb.out) (Or.inl ⟨by kernel_rfl, ?hy33⟩) ?r33
            case hy33 =>
              intro w hSw
              try dsimp only at hSw
              go_simp
              try with_reducible rfl
            try simp only [Act.put, List.getElem_toArray, List.getElem_cons_succ, List.getElem_cons_zero, List.setIfInBounds_toArray, List.set_cons_zero, List.set_cons_succ]
            refine AnyBut.takeS (i := 10) (v := ?v34) rfl (by kernel_rfl) (Nat.le_of_eq (by kernel_rfl)) (by kernel_rfl) (by kernel_rfl) (fun _ _ _ h => h) (HSSb.out) (Or.inl ⟨by kernel_rfl, ?hy34⟩) ?r34
            case hy34 =>
              intro w hSw
              try dsimp only at hSw
              go_simp
              try with_reducible rfl
            try simp only [Act.put, List.getElem_toArray, List.getElem_cons_succ, List.getElem_cons_zero, List.setIfInBounds_toArray, List.set_cons_zero, List.set_cons_succ]
            refine AnyBut.takeS (i := 11) (v := ?v35) rfl (by kernel_rfl) (Nat.le_of_eq (by kernel_rfl)) (by kernel_rfl) (by kernel_rfl) (fun _ _ _ h => h) (HSSb.out) (Or.inl ⟨by kernel_rfl, ?hy35⟩) ?r35
            case hy35 =>
              intro w hSw
              try dsimp only at hSw
              go_simp
              try with_reducible rfl
            try simp only [Act.put, List.getElem_toArray, List.getElem_cons_succ, List.getElem_cons_zero, List.setIfInBounds_toArray, List.set_cons_zero, List.set_cons_succ]
            refine AnyBut.takeS (i := 12) (v := ?v36) rfl (by kernel_rfl) (Nat.le_of_eq (by kernel_rfl)) (by kernel_rfl) (by kernel_rfl) (fun _ _ _ h => h) (HSSb.out) (Or.inl ⟨by kernel_rfl, ?hy36⟩) ?r36
            case hy36 =>
              intro w hSw
              try dsimp only at hSw
              go_simp
              try with_reducible rfl
            try simp only [Act.put, List.getElem_toArray, List.getElem_cons_succ, List.getElem_cons_zero, List.setIfInBounds_toArray, List.set_cons_zero, List.set_cons_succ]
            refine AnyBut.takeS (i := 13) (v := ?v37) rfl (by kernel_rfl) (Nat.le_of_eq (by kernel_rfl)) (by kernel_rfl) (by kernel_rfl) (fun _ _ _ h => h) (HSSb.out) (Or.inl ⟨by kernel_rfl, ?hy37⟩) ?r37
            case hy37 =>
              intro w hSw
              try dsimp only at hSw
              go_simp
              try with_reducible rfl
            try simp only [Act.put, List.getElem_toArray, List.getElem_cons_succ, List.getElem_cons_zero, List.setIfInBounds_toArray, List.set_cons_zero, List.set_cons_succ]
            refine AnyBut.takeS (i := 14) (v := ?v38) rfl (by kernel_rfl) (Nat.le_of_eq (by kernel_rfl)) (by kernel_rfl) (by kernel_rfl) (fun _ _ _ h => h) (HSSb.out) (Or.inl ⟨by kernel_rfl, ?hy38⟩) ?r38
            case hy38 =>
              intro w hSw
              try dsimp only at hSw
              go_simp
              try with_reducible rfl
            try simp only [Act.put, List.getElem_toArray, List.getElem_cons_succ, List.getElem_cons_zero, List.setIfInBounds_toArray, List.set_cons_zero, List.set_cons_succ]
            refine AnyBut.one (i := 15) (by kernel_rfl) rfl (fun K hK => ?_)
            go_simp
            rw [← HW8.out]
            go_wp2_with fail
            refine (HLK2.out w8 HX8.out.k (HAM.out w8 HA8.out)).mono ?_
            rintro e w9 ⟨rfl, k9⟩
            have HX9 := Lib.hid (HX8.out.on k9)
            have HA9 := Lib.hid (HA8.out.on k9)
            clear k9
            have HSSc : Hid ((fun w' => w'.cell? ⟨qh, 0, none⟩ = some (.int .i64 SC) ∧ w'.cell? ⟨qh, 1, none⟩ = some (.int .u64 (v0 : Int)) ∧ w'.cell? ⟨qh, 2, none⟩ = some (.int .i64 PO) ∧ w'.cell? ⟨qh, 3, none⟩ = some (.slice ap PN cp) ∧ w'.cell? ⟨qh, 4, none⟩ = some (.int .i64 NO) ∧ w'.cell? ⟨qh, 5, none⟩ = some (.slice an NN cn) ∧ w'.cell? ⟨gb, ob + m * 6, none⟩ = some (.int .i64 gsc) ∧ w'.cell? ⟨gb, ob + m * 6 + 1, none⟩ = some (.int .u64 (gze : Int)) ∧ w'.cell? ⟨gb, ob + m * 6 + 2, none⟩ = some (.int .i64 gpo) ∧ w'.cell? ⟨gb, ob + m * 6 + 3, none⟩ = some (.slice a1 gpl.length c1) ∧ w'.cell? ⟨gb, ob + m * 6 + 4, none⟩ = some (.int .i64 gno) ∧ w'.cell? ⟨gb, ob + m * 6 + 5, none⟩ = some (.slice a2 gnl.length c2)) w9) := by
              obtain ⟨x0, x1, x2, x3, x4, x5⟩ := HistBox.c (h := ⟨SC, v0, PO, [], NO, []⟩) HX9.out.h
              obtain ⟨z0, z1, z2, z3, z4, z5⟩ := HElt.keptS HEL.out HX9.out.k (fun x => x)
              exact Lib.hid ⟨x0, x1, x2, x3, x4, x5, z0, z1, z2, z3, z4, z5⟩
            go_wp2
            refine hK.out _ _ (HSSc.out) ?_
            clear hK K
            try simp only [Act.put, List.getElem_toArray, List.getElem_cons_succ, List.getElem_cons_zero, List.setIfInBounds_toArray, List.set_cons_zero, List.set_cons_succ]
            refine AnyBut.takeS (i := 16) (v := ?v39) rfl (by kernel_rfl) (Nat.le_of_eq (by kernel_rfl)) (by kernel_rfl) (by kernel_rfl) (fun _ _ _ h => h) (HSSc.out) (Or.inl ⟨by kernel_rfl, ?hy39⟩) ?r39
            case hy39 =>
              intro w hSw
              try dsimp only at hSw
              go_simp
              try with_reducible rfl
            try simp only [Act.put, List.getElem_toArray, List.getElem_cons_succ, List.getElem_cons_zero, List.setIfInBounds_toArray, List.set_cons_zero, List.set_cons_succ]
            refine AnyBut.done (by kernel_rfl) ?_
            have hcase : AL = false ∨ AL = true := by cases AL <;> simp
            rcases hcase with rfl | rfl
            · have HR := Lib.hid (HR2.out.trans (if_neg (by decide)))
              have hkd := (Kept.refl (fun _ => False) w9).drew
              have HXe := Lib.hid (HX9.out.on hkd)
              have HAe := Lib.hid (HA9.out.on hkd)
              have HSSe : Hid ((fun w' => w'.cell? ⟨qh, 0, none⟩ = some (.int .i64 SC) ∧ w'.cell? ⟨qh, 1, none⟩ = some (.int .u64 (v0 : Int)) ∧ w'.cell? ⟨qh, 2, none⟩ = some (.int .i64 PO) ∧ w'.cell? ⟨qh, 3, none⟩ = some (.slice ap PN cp) ∧ w'.cell? ⟨qh, 4, none⟩ = some (.int .i64 NO) ∧ w'.cell? ⟨qh, 5, none⟩ = some (.slice an NN cn) ∧ w'.cell? ⟨qs, 1, none⟩ = some (.int .i64 (T : Int))) w9.drew) := by
                obtain ⟨x0, x1, x2, x3, x4, x5⟩ := HistBox.c (h := ⟨SC, v0, PO, [], NO, []⟩) HXe.out.h
                exact Lib.hid ⟨x0, x1, x2, x3, x4, x5, HXe.out.s.c.1.2.1⟩
              clear hkd
              go_upto_region 33 with fail
              refine AnyBut.start (S := fun w' => w'.cell? ⟨qh, 0, none⟩ = some (.int .i64 SC) ∧ w'.cell? ⟨qh, 1, none⟩ = some (.int .u64 (v0 : Int)) ∧ w'.cell? ⟨qh, 2, none⟩ = some (.int .i64 PO) ∧ w'.cell? ⟨qh, 3, none⟩ = some (.slice ap PN cp) ∧ w'.cell? ⟨qh, 4, none⟩ = some (.int .i64 NO) ∧ w'.cell? ⟨qh, 5, none⟩ = some (.slice an NN cn) ∧ w'.cell? ⟨qs, 1, none⟩ = some (.int .i64 (T : Int))) (k := 6) (by kernel_rfl) ?_
              refine AnyBut.take (i := 0) (v := ?v40) rfl (by kernel_rfl) (by kernel_rfl) (by kernel_rfl) (by kernel_rfl) (fun _ _ _ h => h) (HSSe.out) (Or.inl ⟨by kernel_rfl, ?hy40⟩) ?r40
              case hy40 =>
                intro w hSw
                try dsimp only at hSw
                go_simp
                try with_reducible rfl
              try simp only [Act.put, List.getElem_toArray, List.getElem_cons_zero, List.setIfInBounds_toArray, List.set_cons_zero, List.set_cons_succ]
              refine AnyBut.take (i := 1) (v := ?v41) rfl (by kernel_rfl) (by kernel_rfl) (by kernel_rfl) (by kernel_rfl) (fun _ _ _ h => h) (HSSe.out) (Or.inl ⟨by kernel_rfl, ?hy41⟩) ?r41
              case hy41 =>
                intro w hSw
                try dsimp only at hSw
                go_simp
                try with_reducible rfl
              try simp only [Act.put, List.getElem_toArray, List.getElem_cons_succ, List.getElem_cons_zero, List.setIfInBounds_toArray, List.set_cons_zero, List.set_cons_succ]
              refine AnyBut.take (i := 2) (v := ?v42) rfl (by kernel_rfl) (by kernel_rfl) (by kernel_rfl) (by kernel_rfl) (fun _ _ _ h => h) (HSSe.out) (Or.inl ⟨by kernel_rfl, ?hy42⟩) ?r42
              case hy42 =>
                intro w hSw
                try dsimp only at hSw
                go_simp
                try with_reducible rfl
              try simp only [Act.put, List.getElem_toArray, List.getElem_cons_succ, List.getElem_cons_zero, List.setIfInBounds_toArray, List.set_cons_zero, List.set_cons_succ]
              refine AnyBut.take (i := 3) (v := ?v43) rfl (by kernel_rfl) (by kernel_rfl) (by kernel_rfl) (by kernel_rfl) (fun _ _ _ h => h) (HSSe.out) (Or.inl ⟨by kernel_rfl, ?hy43⟩) ?r43
              case hy43 =>
                intro w hSw
                try dsimp only at hSw
                go_simp
                try with_reducible rfl
              try simp only [Act.put, List.getElem_toArray, List.getElem_cons_succ, List.getElem_cons_zero, List.setIfInBounds_toArray, List.set_cons_zero, List.set_cons_succ]
              refine AnyBut.take (i := 4) (v := ?v44) rfl (by kernel_rfl) (by kernel_rfl) (by kernel_rfl) (by kernel_rfl) (fun _ _ _ h => h) (HSSe.out) (Or.inl ⟨by kernel_rfl, ?hy44⟩) ?r44
              case hy44 =>
                intro w hSw
                try dsimp only at hSw
                go_simp
                try with_reducible rfl
              try simp only [Act.put, List.getElem_toArray, List.getElem_cons_succ, List.getElem_cons_zero, List.setIfInBounds_toArray, List.set_cons_zero, List.set_cons_succ]
              refine AnyBut.take (i := 5) (v := ?v45) rfl (by kernel_rfl) (by kernel_rfl) (by kernel_rfl) (by kernel_rfl) (fun _ _ _ h => h) (HSSe.out) (Or.inl ⟨by kernel_rfl, ?hy45⟩) ?r45
              case hy45 =>
                intro w hSw
                try dsimp only at hSw
                go_simp
                try with_reducible rfl
              try simp only [Act.put, List.getElem_toArray, List.getElem_cons_succ, List.getElem_cons_zero, List.setIfInBounds_toArray, List.set_cons_zero, List.set_cons_succ]
              refine AnyBut.last (by kernel_rfl) rfl (by kernel_rfl) (fun K hK => ?_)
              have f0 := HX9.out.g.f 0
              have f1 := HX9.out.g.f 1
              have f2 := HX9.out.g.f 2
              have f3 := HX9.out.g.f 3
              have f4 := HX9.out.g.f 4
              have f5 := HX9.out.g.f 5
              have f6 := HX9.out.g.f 6
              have f7 := HX9.out.g.f 7
              obtain ⟨y0, y1, y2, y3, y4, y5, y6, y7⟩ := HX9.out.g.c
              dsimp only [zeroH] at y0 y1 y2 y3 y4 y5
              go_simp
              refine hK.out _ _ ?_
              clear hK K
              try simp only [Act.put, List.getElem_toArray, List.getElem_cons_succ, List.getElem_cons_zero, List.setIfInBounds_toArray, List.set_cons_zero, List.set_cons_succ]
              try simp only [Exit.then]
              have HHB := (HX9.out.g.set HH (.slice ap PN cp) (.slice an NN cn) T 0).same ((Kept.refl (fun _ => False) _).drew) (fun x => x)
              go_wp2
              refine got10_end (R := (HH, T, 0)) (pv := .slice ap PN cp) (nv := .slice an NN cn) Tryd.results45 rfl rfl (by rw [HMK.out] at HHB ⊢; exact HHB) ?_
              rw [HR.out]
              have hk9 := (set8_kept w9 qg (.int .i64 HH.sc) (.int .u64 (HH.ze : Int)) (.int .i64 HH.po) (.slice ap PN cp) (.int .i64 HH.no) (.slice an NN cn) (.int .i64 (T : Int)) (.int .i64 0)).drew
              rw [HMK.out] at hk9
              exact ⟨_, _, rfl, HA9.out.kept hk9 (fun k e e2 => HBG.out.1 (by rw [e, e2])) (fun k e e2 => HBG.out.2 (by rw [e, e2])), HNC.out, HX9.out.k.new hk9 HX9.out.og⟩
            · have HR := Lib.hid (HR2.out.trans (if_pos rfl))
              have f0 := HX9.out.g.f 0
              have f1 := HX9.out.g.f 1
              have f2 := HX9.out.g.f 2
              have f3 := HX9.out.g.f 3
              have f4 := HX9.out.g.f 4
              have f5 := HX9.out.g.f 5
              have f6 := HX9.out.g.f 6
              have f7 := HX9.out.g.f 7
              obtain ⟨y0, y1, y2, y3, y4, y5, y6, y7⟩ := HX9.out.g.c
              dsimp only [zeroH] at y0 y1 y2 y3 y4 y5
              go_wp2
              try simp only [Exit.inBlock, Exit.then]
              refine got10_end (R := (zeroH, 0, 3)) (pv := .slice none 0 0) (nv := .slice none 0 0) Tryd.results45 rfl rfl (HX9.out.g.set zeroH (.slice none 0 0) (.slice none 0 0) 0 3) ?_
              rw [HR.out]
              exact ⟨_, _, rfl, ⟨slAt_nil _, slAt_nil _⟩, newC_nil _, HX9.out.k.new (set8_kept _ _ _ _ _ _ _ _ _ _) HX9.out.og⟩
          · obtain rfl : n = 0 := Nat.le_zero.1 (Nat.not_lt.1 hn)
            have HR := Lib.hid (HR1.out.trans (if_neg (fun e => by have := e.2.1; omega)))
            clear hn
            go_upto_region 31 with fail
            refine AnyBut.start (S := fun _ => True) (k := 17) (by kernel_rfl) ?_
            refine AnyBut.takeS (i := 0) (v := ?v1) rfl (by kernel_rfl) (Nat.le_of_eq (by kernel_rfl)) (by kernel_rfl) (by kernel_rfl) (fun _ _ _ h => h) (trivial) (Or.inl ⟨by kernel_rfl, ?hy1⟩) ?r1
            case hy1 =>
              intro w hSw
              try dsimp only at hSw
              go_simp
              try with_reducible rfl
            try simp only [Act.put, List.getElem_toArray, List.getElem_cons_zero, List.setIfInBounds_toArray, List.set_cons_zero, List.set_cons_succ]
            refine AnyBut.takeS (i := 1) (v := ?v2) rfl (by kernel_rfl) (Nat.le_of_eq (by kernel_rfl)) (by kernel_rfl) (by kernel_rfl) (fun _ _ _ h => h) (trivial) (Or.inl ⟨by kernel_rfl, ?hy2⟩) ?r2
            case hy2 =>
              intro w hSw
              try dsimp only at hSw
              go_simp
              try with_reducible rfl
            try simp only [Act.put, List.getElem_toArray, List.getElem_cons_succ, List.getElem_cons_zero, List.setIfInBounds_toArray, List.set_cons_zero, List.set_cons_succ]
            refine AnyBut.takeS (i := 2) (v := ?v3) rfl (by kernel_rfl) (Nat.le_of_eq (by kernel_rfl)) (by kernel_rfl) (by kernel_rfl) (fun _ _ _ h => h) (trivial) (Or.inl ⟨by kernel_rfl, ?hy3⟩) ?r3
            case hy3 =>
              intro w hSw
              try dsimp only at hSw
              go_simp
              try with_reducible rfl
            try simp only [Act.put, List.getElem_toArray, List.getElem_cons_succ, List.getElem_cons_zero, List.setIfInBounds_toArray, List.set_cons_zero, List.set_cons_succ]
            refine AnyBut.takeS (i := 3) (v := ?v4) rfl (by kernel_rfl) (Nat.le_of_eq (by kernel_rfl)) (by kernel_rfl) (by kernel_rfl) (fun _ _ _ h => h) (trivial) (Or.inl ⟨by kernel_rfl, ?hy4⟩) ?r4
            case hy4 =>
              intro w hSw
              try dsimp only at hSw
              go_simp
              try with_reducible rfl
            try simp only [Act.put, List.getElem_toArray, List.getElem_cons_succ, List.getElem_cons_zero, List.setIfInBounds_toArray, List.set_cons_zero, List.set_cons_succ]
            refine AnyBut.takeS (i := 4) (v := ?v5) rfl (by kernel_rfl) (Nat.le_of_eq (by kernel_rfl)) (by kernel_rfl) (by kernel_rfl) (fun _ _ _ h => h) (trivial) (Or.inl ⟨by kernel_rfl, ?hy5⟩) ?r5
            case hy5 =>
              intro w hSw
              try dsimp only at hSw
              go_simp
              try with_reducible rfl
            try simp only [Act.put, List.getElem_toArray, List.getElem_cons_succ, List.getElem_cons_zero, List.setIfInBounds_toArray, List.set_cons_zero, List.set_cons_succ]
            refine AnyBut.takeS (i := 5) (v := ?v6) rfl (by kernel_rfl) (Nat.le_of_eq (by kernel_rfl)) (by kernel_rfl) (by kernel_rfl) (fun _ _ _ h => h) (trivial) (Or.inl ⟨by kernel_rfl, ?hy6⟩) ?r6
            case hy6 =>
              intro w hSw
              try dsimp only at hSw
              go_simp
              try with_reducible rfl
            try simp only [Act.put, List.getElem_toArray, List.getElem_cons_succ, List.getElem_cons_zero, List.setIfInBounds_toArray, List.set_cons_zero, List.set_cons_succ]
            refine AnyBut.takeS (i := 6) (v := ?v7) rfl (by kernel_rfl) (Nat.le_of_eq (by kernel_rfl)) (by kernel_rfl) (by kernel_rfl) (fun _ _ _ h => h) (trivial) (Or.inl ⟨by kernel_rfl, ?hy7⟩) ?r7
            case hy7 =>
              intro w hSw
              try dsimp only at hSw
              go_simp
              try with_reducible rfl
            try simp only [Act.put, List.getElem_toArray, List.getElem_cons_succ, List.getElem_cons_zero, List.setIfInBounds_toArray, List.set_cons_zero, List.set_cons_succ]
            refine AnyBut.takeS (i := 7) (v := ?v8) rfl (by kernel_rfl) (Nat.le_of_eq (by kernel_rfl)) (by kernel_rfl) (by kernel_rfl) (fun _ _ _ h => h) (trivial) (Or.inl ⟨by kernel_rfl, ?hy8⟩) ?r8
            case hy8 =>
              intro w hSw
              try dsimp only at hSw
              go_simp
              try with_reducible rfl
            try simp only [Act.put, List.getElem_toArray, List.getElem_cons_succ, List.getElem_cons_zero, List.setIfInBounds_toArray, List.set_cons_zero, List.set_cons_succ]
            refine AnyBut.takeS (i := 8) (v := undef) rfl (by kernel_rfl) (Nat.le_of_eq (by kernel_rfl)) (by kernel_rfl) (by kernel_rfl) (fun _ _ _ h => h) (trivial) (Or.inr ⟨by kernel_rfl, rfl⟩) ?r9
            try simp only [Act.put, List.getElem_toArray, List.getElem_cons_succ, List.getElem_cons_zero, List.setIfInBounds_toArray, List.set_cons_zero, List.set_cons_succ]
            refine AnyBut.takeS (i := 9) (v := undef) rfl (by kernel_rfl) (Nat.le_of_eq (by kernel_rfl)) (by kernel_rfl) (by kernel_rfl) (fun _ _ _ h => h) (trivial) (Or.inr ⟨by kernel_rfl, rfl⟩) ?r10
            try simp only [Act.put, List.getElem_toArray, List.getElem_cons_succ, List.getElem_cons_zero, List.setIfInBounds_toArray, List.set_cons_zero, List.set_cons_succ]
            refine AnyBut.takeS (i := 10) (v := undef) rfl (by kernel_rfl) (Nat.le_of_eq (by kernel_rfl)) (by kernel_rfl) (by kernel_rfl) (fun _ _ _ h => h) (trivial) (Or.inr ⟨by kernel_rfl, rfl⟩) ?r11
            try simp only [Act.put, List.getElem_toArray, List.getElem_cons_succ, List.getElem_cons_zero, List.setIfInBounds_toArray, List.set_cons_zero, List.set_cons_succ]
            refine AnyBut.takeS (i := 11) (v := undef) rfl (by kernel_rfl) (Nat.le_of_eq (by kernel_rfl)) (by kernel_rfl) (by kernel_rfl) (fun _ _ _ h => h) (trivial) (Or.inr ⟨by kernel_rfl, rfl⟩) ?r12
            try simp only [Act.put, List.getElem_toArray, List.getElem_cons_succ, List.getElem_cons_zero, List.setIfInBounds_toArray, List.set_cons_zero, List.set_cons_succ]
            refine AnyBut.takeS (i := 12) (v := undef) rfl (by kernel_rfl) (Nat.le_of_eq (by kernel_rfl)) (by kernel_rfl) (by kernel_rfl) (fun _ _ _ h => h) (trivial) (Or.inr ⟨by kernel_rfl, rfl⟩) ?r13
            try simp only [Act.put, List.getElem_toArray, List.getElem_cons_succ, List.getElem_cons_zero, List.setIfInBounds_toArray, List.set_cons_zero, List.set_cons_succ]
            refine AnyBut.takeS (i := 13) (v := undef) rfl (by kernel_rfl) (Nat.le_of_eq (by kernel_rfl)) (by kernel_rfl) (by kernel_rfl) (fun _ _ _ h => h) (trivial) (Or.inr ⟨by kernel_rfl, rfl⟩) ?r14
            try simp only [Act.put, List.getElem_toArray, List.getElem_cons_succ, List.getElem_cons_zero, List.setIfInBounds_toArray, List.set_cons_zero, List.set_cons_succ]
            refine AnyBut.takeS (i := 14) (v := undef) rfl (by kernel_rfl) (Nat.le_of_eq (by kernel_rfl)) (by kernel_rfl) (by kernel_rfl) (fun _ _ _ h => h) (trivial) (Or.inr ⟨by kernel_rfl, rfl⟩) ?r15
            try simp only [Act.put, List.getElem_toArray, List.getElem_cons_succ, List.getElem_cons_zero, List.setIfInBounds_toArray, List.set_cons_zero, List.set_cons_succ]
            refine AnyBut.takeS (i := 15) (v := undef) rfl (by kernel_rfl) (Nat.le_of_eq (by kernel_rfl)) (by kernel_rfl) (by kernel_rfl) (fun _ _ _ h => h) (trivial) (Or.inr ⟨by kernel_rfl, rfl⟩) ?r16
            try simp only [Act.put, List.getElem_toArray, List.getElem_cons_succ, List.getElem_cons_zero, List.setIfInBounds_toArray, List.set_cons_zero, List.set_cons_succ]
            refine AnyBut.takeS (i := 16) (v := ?v17) rfl (by kernel_rfl) (Nat.le_of_eq (by kernel_rfl)) (by kernel_rfl) (by kernel_rfl) (fun _ _ _ h => h) (trivial) (Or.inl ⟨by kernel_rfl, ?hy17⟩) ?r17
            case hy17 =>
              intro w hSw
              try dsimp only at hSw
              go_simp
              try with_reducible rfl
            try simp only [Act.put, List.getElem_toArray, List.getElem_cons_succ, List.getElem_cons_zero, List.setIfInBounds_toArray, List.set_cons_zero, List.set_cons_succ]
            refine AnyBut.done (by kernel_rfl) ?_
            obtain ⟨w8, hw8⟩ : ∃ w', w' = w7.drew := ⟨_, rfl⟩
            rw [← hw8]
            have k8 : Kept (fun _ => False) w7 w8 := by rw [hw8]; exact (Kept.refl _ _).drew
            have HX8 := Lib.hid (HX7.out.on k8)
            have HA8 := Lib.hid (HA7.out.on k8)
            clear hw8 k8
            have hkd := (Kept.refl (fun _ => False) w8).drew
            have HXe := Lib.hid (HX8.out.on hkd)
            have HAe := Lib.hid (HA8.out.on hkd)
            have HSSe : Hid ((fun w' => w'.cell? ⟨qh, 0, none⟩ = some (.int .i64 SC) ∧ w'.cell? ⟨qh, 1, none⟩ = some (.int .u64 (v0 : Int)) ∧ w'.cell? ⟨qh, 2, none⟩ = some (.int .i64 PO) ∧ w'.cell? ⟨qh, 3, none⟩ = some (.slice ap PN cp) ∧ w'.cell? ⟨qh, 4, none⟩ = some (.int .i64 NO) ∧ w'.cell? ⟨qh, 5, none⟩ = some (.slice an NN cn) ∧ w'.cell? ⟨qs, 1, none⟩ = some (.int .i64 (T : Int))) w8.drew) := by
              obtain ⟨x0, x1, x2, x3, x4, x5⟩ := HistBox.c (h := ⟨SC, v0, PO, [], NO, []⟩) HXe.out.h
              exact Lib.hid ⟨x0, x1, x2, x3, x4, x5, HXe.out.s.c.1.2.1⟩
            clear hkd
            go_upto_region 33 with fail
            refine AnyBut.start (S := fun w' => w'.cell? ⟨qh, 0, none⟩ = some (.int .i64 SC) ∧ w'.cell? ⟨qh, 1, none⟩ = some (.int .u64 (v0 : Int)) ∧ w'.cell? ⟨qh, 2, none⟩ = some (.int .i64 PO) ∧ w'.cell? ⟨qh, 3, none⟩ = some (.slice ap PN cp) ∧ w'.cell? ⟨qh, 4, none⟩ = some (.int .i64 NO) ∧ w'.cell? ⟨qh, 5, none⟩ = some (.slice an NN cn) ∧ w'.cell? ⟨qs, 1, none⟩ = some (.int .i64 (T : Int))) (k := 6) (by kernel_rfl) ?_
            refine AnyBut.take (i := 0) (v := ?v18) rfl (by kernel_rfl) (by kernel_rfl) (by kernel_rfl) (by kernel_rfl) (fun _ _ _ h => h) (HSSe.out) (Or.inl ⟨by kernel_rfl, ?hy18⟩) ?r18
            case hy18 =>
              intro w hSw
              try dsimp only at hSw
              go_simp
              try with_reducible rfl
            try simp only [Act.put, List.getElem_toArray, List.getElem_cons_zero, List.setIfInBounds_toArray, List.set_cons_zero, List.set_cons_succ]
            refine AnyBut.take (i := 1) (v := ?v19) rfl (by kernel_rfl) (by kernel_rfl) (by kernel_rfl) (by kernel_rfl) (fun _ _ _ h => h) (HSSe.out) (Or.inl ⟨by kernel_rfl, ?hy19⟩) ?r19
            case hy19 =>
              intro w hSw
              try dsimp only at hSw
              go_simp
              try with_reducible rfl
            try simp only [Act.put, List.getElem_toArray, List.getElem_cons_succ, List.getElem_cons_zero, List.setIfInBounds_toArray, List.set_cons_zero, List.set_cons_succ]
            refine AnyBut.take (i := 2) (v := ?v20) rfl (by kernel_rfl) (by kernel_rfl) (by kernel_rfl) (by kernel_rfl) (fun _ _ _ h => h) (HSSe.out) (Or.inl ⟨by kernel_rfl, ?hy20⟩) ?r20
            case hy20 =>
              intro w hSw
              try dsimp only at hSw
              go_simp
              try with_reducible rfl
            try simp only [Act.put, List.getElem_toArray, List.getElem_cons_succ, List.getElem_cons_zero, List.setIfInBounds_toArray, List.set_cons_zero, List.set_cons_succ]
            refine AnyBut.take (i := 3) (v := ?v21) rfl (by kernel_rfl) (by kernel_rfl) (by kernel_rfl) (by kernel_rfl) (fun _ _ _ h => h) (HSSe.out) (Or.inl ⟨by kernel_rfl, ?hy21⟩) ?r21
            case hy21 =>
              intro w hSw
              try dsimp only at hSw
              go_simp
              try with_reducible rfl
            try simp only [Act.put, List.getElem_toArray, List.getElem_cons_succ, List.getElem_cons_zero, List.setIfInBounds_toArray, List.set_cons_zero, List.set_cons_succ]
            refine AnyBut.take (i := 4) (v := ?v22) rfl (by kernel_rfl) (by kernel_rfl) (by kernel_rfl) (by kernel_rfl) (fun _ _ _ h => h) (HSSe.out) (Or.inl ⟨by kernel_rfl, ?hy22⟩) ?r22
            case hy22 =>
              intro w hSw
              try dsimp only at hSw
              go_simp
              try with_reducible rfl
            try simp only [Act.put, List.getElem_toArray, List.getElem_cons_succ, List.getElem_cons_zero, List.setIfInBounds_toArray, List.set_cons_zero, List.set_cons_succ]
            refine AnyBut.take (i := 5) (v := ?v23) rfl (by kernel_rfl) (by kernel_rfl) (by kernel_rfl) (by kernel_rfl) (fun _ _ _ h => h) (HSSe.out) (Or.inl ⟨by kernel_rfl, ?hy23⟩) ?r23
            case hy23 =>
              intro w hSw
              try dsimp only at hSw
              go_simp
              try with_reducible rfl
            try simp only [Act.put, List.getElem_toArray, List.getElem_cons_succ, List.getElem_cons_zero, List.setIfInBounds_toArray, List.set_cons_zero, List.set_cons_succ]
            refine AnyBut.last (by kernel_rfl) rfl (by kernel_rfl) (fun K hK => ?_)
            have f0 := HX8.out.g.f 0
            have f1 := HX8.out.g.f 1
            have f2 := HX8.out.g.f 2
            have f3 := HX8.out.g.f 3
            have f4 := HX8.out.g.f 4
            have f5 := HX8.out.g.f 5
            have f6 := HX8.out.g.f 6
            have f7 := HX8.out.g.f 7
            obtain ⟨y0, y1, y2, y3, y4, y5, y6, y7⟩ := HX8.out.g.c
            dsimp only [zeroH] at y0 y1 y2 y3 y4 y5
            go_simp
            refine hK.out _ _ ?_
            clear hK K
            try simp only [Act.put, List.getElem_toArray, List.getElem_cons_succ, List.getElem_cons_zero, List.setIfInBounds_toArray, List.set_cons_zero, List.set_cons_succ]
            try simp only [Exit.then]
            have HHB := (HX8.out.g.set HH (.slice ap PN cp) (.slice an NN cn) T 0).same ((Kept.refl (fun _ => False) _).drew) (fun x => x)
            go_wp2
            refine got10_end (R := (HH, T, 0)) (pv := .slice ap PN cp) (nv := .slice an NN cn) Tryd.results45 rfl rfl (by rw [HMK.out] at HHB ⊢; exact HHB) ?_
            rw [HR.out]
            have hk9 := (set8_kept w8 qg (.int .i64 HH.sc) (.int .u64 (HH.ze : Int)) (.int .i64 HH.po) (.slice ap PN cp) (.int .i64 HH.no) (.slice an NN cn) (.int .i64 (T : Int)) (.int .i64 0)).drew
            rw [HMK.out] at hk9
            exact ⟨_, _, rfl, HA8.out.kept hk9 (fun k e e2 => HBG.out.1 (by rw [e, e2])) (fun k e e2 => HBG.out.2 (by rw [e, e2])), HNC.out, HX8.out.k.new hk9 HX8.out.og⟩
        · have qR : ((ER : Int) != 0) = true := bneT (by omega)
          have HR := Lib.hid (HRES.out.trans (if_pos hER))
          clear hER
          have f0 := HX7.out.g.f 0
          have f1 := HX7.out.g.f 1
          have f2 := HX7.out.g.f 2
          have f3 := HX7.out.g.f 3
          have f4 := HX7.out.g.f 4
          have f5 := HX7.out.g.f 5
          have f6 := HX7.out.g.f 6
          have f7 := HX7.out.g.f 7
          obtain ⟨y0, y1, y2, y3, y4, y5, y6, y7⟩ := HX7.out.g.c
          dsimp only [zeroH] at y0 y1 y2 y3 y4 y5
          go_wp2
          try simp only [Exit.inBlock, Exit.then]
          refine got10_end (R := (zeroH, 0, ER)) (pv := .slice none 0 0) (nv := .slice none 0 0) Tryd.results45 rfl rfl (HX7.out.g.set zeroH (.slice none 0 0) (.slice none 0 0) 0 ER) ?_
          rw [HR.out]
          exact ⟨_, _, rfl, ⟨slAt_nil _, slAt_nil _⟩, newC_nil _, HX7.out.k.new (set8_kept _ _ _ _ _ _ _ _ _ _) HX7.out.og⟩
      · have qE : ((EE : Int) != 0) = true := bneT (by omega)
        have HR := Lib.hid (HD.out.trans (finD_bad (s := (vs, T, EE)) hE))
        clear hE
        have f0 := HX.out.g.f 0
        have f1 := HX.out.g.f 1
        have f2 := HX.out.g.f 2
        have f3 := HX.out.g.f 3
        have f4 := HX.out.g.f 4
        have f5 := HX.out.g.f 5
        have f6 := HX.out.g.f 6
        have f7 := HX.out.g.f 7
        obtain ⟨y0, y1, y2, y3, y4, y5, y6, y7⟩ := HX.out.g.c
        dsimp only [zeroH] at y0 y1 y2 y3 y4 y5
        go_wp2
        try simp only [Exit.inBlock, Exit.then]
        refine got10_end (R := (zeroH, 0, EE)) (pv := .slice none 0 0) (nv := .slice none 0 0) Tryd.results45 rfl rfl (HX.out.g.set zeroH (.slice none 0 0) (.slice none 0 0) 0 EE) ?_
        rw [HR.out]
        exact ⟨_, _, rfl, ⟨slAt_nil _, slAt_nil _⟩, newC_nil _, HX.out.k.new (set8_kept _ _ _ _ _ _ _ _ _ _) HX.out.og⟩
end Go.Proofs.YtjpnfadmblmjbaaDoor
/- package limnographref10: Get. -/
namespace Go.Proofs.YtjpnfadmblmjbaaDoor
open Go.RowKit

theorem refGet10_any (rao : Option Addr) (rc : Nat) (L : List HP) (ao : Option Addr) (c : Nat) (l : List Bool) (w : World) (hr : HsAt w rao L) (hLn : L.length ≤ 1000) (hin : ∀ P ∈ L, HistAt w P.h P.pv P.nv ∧ P.h.ok ∧ P.h.pl.length ≤ 160 ∧ P.h.nl.length ≤ 160)
    (hv : SlAt w (.slice ao l.length c) (ints l)) (hvo : ∀ k, (Value.slice ao l.length c).ownBlock = some k → k < w.heap.size) (hc : l.length ≤ c) (hl : l.length ≤ 100000000) :
    Calls Tryd.prog 45 #[.slice rao L.length rc, .slice ao l.length c] w (GetD w (docG L.length (lastH L) l)) := by
  by_cases h1 : (bitsR l 0 0 1).1 = 1
  · by_cases h0 : L.length = 0
    · rw [h0]
      exact refGet10_A rc ao c l w hv hvo hc hl rao h1 (lastH L)
    · exact refGet10_B rao rc L ao c l w hr hLn hin hv hvo hc hl h1 (by omega)
  · exact refGet10_C rao rc L ao c l w hr hLn hin hv hvo hc hl h1
end Go.Proofs.YtjpnfadmblmjbaaDoor
/- Layer 10, plainly: bounds of what is taken. -/
namespace Go.Proofs.YtjpnfadmblmjbaaDoor
open Go.RowKit

theorem zeroH_fit : zeroH.ok ∧ zeroH.pl.length ≤ 160 ∧ zeroH.nl.length ≤ 160 := ⟨⟨by decide, by decide, by decide, by intro x hx; simp [zeroH] at hx, by decide, by intro x hx; simp [zeroH] at hx⟩, Nat.zero_le _, Nat.zero_le _⟩
theorem lastH_fit {L : List HP} (hL : ∀ P ∈ L, P.h.ok ∧ P.h.err = 0) : (lastH L).ok ∧ (lastH L).pl.length ≤ 160 ∧ (lastH L).nl.length ≤ 160 := by
  by_cases h : L.length = 0
  · obtain rfl : L = [] := List.length_eq_zero_iff.1 h
    exact zeroH_fit
  · have hl : L[L.length - 1]? = some L[L.length - 1] := List.getElem?_eq_getElem (by omega)
    rw [lastH_at hl]
    have := hL _ (List.getElem_mem (show L.length - 1 < L.length by omega))
    exact ⟨this.1, err_lens this.2⟩
theorem lastH_snoc (L : List HP) (P : HP) : lastH (L ++ [P]) = P.h := by
  refine lastH_at ?_
  rw [List.length_append, List.length_singleton, Nat.add_sub_cancel, List.getElem?_append_right (Nat.le_refl _), Nat.sub_self]
  rfl
theorem finD_fit {n : Nat} {g : HistV} {same : Bool} {sh : ShV} {s : List Nat × Nat × Nat} {M : Nat} (h : sh.ok) (hs : ∀ x ∈ s.1, x < 18446744073709551616) (ht : s.2.1 ≤ M) : (finD n g same sh s).1.ok ∧ (finD n g same sh s).2.1 ≤ M := by
  unfold finD
  split
  · exact ⟨zeroH_fit.1, Nat.zero_le _⟩
  · split
    · exact ⟨zeroH_fit.1, Nat.zero_le _⟩
    · split
      · exact ⟨zeroH_fit.1, Nat.zero_le _⟩
      · exact ⟨mkH_ok h hs, ht⟩
/-- What the document's Get answers is a histogram of the machine's, and lies within the bits. -/
theorem docG_fit (n : Nat) (g : HistV) (l : List Bool) (hg : g.ok ∧ g.pl.length ≤ 160 ∧ g.nl.length ≤ 160) : (docG n g l).1.ok ∧ (docG n g l).2.1 ≤ l.length := by
  have h1 := bitsR_le (l := l) (t := 0) (E := 0) (n := 1) (Nat.zero_le _)
  unfold docG
  dsimp only
  obtain ⟨a, ha⟩ : ∃ a, a = bitsR l 0 0 1 := ⟨_, rfl⟩
  rw [← ha] at h1 ⊢
  by_cases hb : a.1 = 1
  · rw [if_pos hb]
    by_cases hn : n = 0
    · rw [if_pos hn]
      exact ⟨zeroH_fit.1, Nat.zero_le _⟩
    · rw [if_neg hn]
      exact finD_fit ⟨hg.1.sc, hg.1.po, hg.1.no, hg.2.1, hg.2.2⟩ (smN_u64 _ _ _ _ _) (smN_le h1 _)
  · rw [if_neg hb]
    have h2 := bitsR_le (E := a.2.2) (n := 5) h1
    have h5 := bitsR_five l a.2.1 a.2.2
    obtain ⟨b, hb⟩ : ∃ b, b = bitsR l a.2.1 a.2.2 5 := ⟨_, rfl⟩
    rw [← hb] at h2 h5 ⊢
    have h3 := sideR_le (E := b.2.2) h2
    obtain ⟨p, hp⟩ : ∃ p, p = sideR l b.2.1 b.2.2 := ⟨_, rfl⟩
    rw [← hp] at h3 ⊢
    have h4 := sideR_le (E := p.2.2.2) h3.1
    obtain ⟨q, hq⟩ : ∃ q, q = sideR l p.2.2.1 p.2.2.2 := ⟨_, rfl⟩
    rw [← hq] at h4 ⊢
    obtain ⟨z, hz⟩ : ∃ z : Int, z = (b.1 : Int) - 10 := ⟨_, rfl⟩
    rw [← hz]
    exact finD_fit (sh := ⟨z, p.1, p.2.1, q.1, q.2.1⟩) ⟨⟨by show -9223372036854775808 ≤ z; omega, by show z ≤ 9223372036854775807; omega⟩, h3.2.2, h4.2.2, h3.2.1, h4.2.1⟩ (smN_u64 _ _ _ _ _) (smN_le h4.1 _)
theorem gotC_lens (f : Nat → List Bool → Nat × Nat × Nat) (s : ShV) (l : List Bool) (hs : s.pn ≤ 160 ∧ s.nn ≤ 160) : (gotC f s l).1.pl.length ≤ 1000000 ∧ (gotC f s l).1.nl.length ≤ 1000000 := by
  unfold gotC
  dsimp only
  split
  · exact ⟨Nat.zero_le _, Nat.zero_le _⟩
  · rename_i hne
    have h0 : (stN f l (1 + s.pn + s.nn)).2.2 = 0 := Decidable.of_not_not hne
    have hl := stN_len f l _ h0
    unfold mkH
    dsimp only
    rw [List.length_take, List.length_drop, List.length_drop, hl]
    omega
theorem gotH_lens (n : Nat) (g : HistV) (l : List Bool) (hg : g.pl.length ≤ 160 ∧ g.nl.length ≤ 160) : (gotH n g l).1.pl.length ≤ 1000000 ∧ (gotH n g l).1.nl.length ≤ 1000000 := by
  unfold gotH
  split
  · exact ⟨Nat.zero_le _, Nat.zero_le _⟩
  · split
    · split
      · exact ⟨Nat.zero_le _, Nat.zero_le _⟩
      · exact gotC_lens _ _ _ hg
    · dsimp only
      split
      · exact ⟨Nat.zero_le _, Nat.zero_le _⟩
      · have h := gotC_lens readF (gotShape (l.drop 1)).1 (l.drop (1 + (gotShape (l.drop 1)).2.1)) (gotShape_fit (l.drop 1)).1
        split
        · exact h
        · split
          · exact h
          · exact h
/-- What was taken without an error. -/
theorem gotH_fit {n : Nat} {g h : HistV} {l : List Bool} {N : Nat} (hg : g.ok ∧ g.pl.length ≤ 160 ∧ g.nl.length ≤ 160) (he : gotH n g l = (h, N, 0)) : h.ok ∧ h.err = 0 ∧ nextH n g h = l.take N ∧ N ≤ l.length ∧ docG n g l = (h, N, 0) := by
  have hd : docG n g l = (h, N, 0) := by rw [docG_got, he]; rfl
  have hf := docG_fit n g l hg
  rw [hd] at hf
  have hc := gotH_canon he
  exact ⟨hf.1, hc.2, hc.1, hf.2, hd⟩
end Go.Proofs.YtjpnfadmblmjbaaDoor
