/- Texts put together: Z39. -/
import Derived.Test.YtjpnfadmblmjbaaDoorZz17
/- package limnographref10: Get, the shape stays (written by tools/gen_XZ39.py). -/
namespace Go.Proofs.YtjpnfadmblmjbaaDoor
open Go.RowKit
attribute [local go_sem ↓] Go.wp_at_zero Go.wp_at_succ

set_option maxHeartbeats 16000000 in
set_option maxRecDepth 100000 in
theorem refGet10_B (rao : Option Addr) (rc : Nat) (L : List HP) (ao : Option Addr) (c : Nat) (l : List Bool) (w : World) (hr : HsAt w rao L) (hLn : L.length ≤ 1000) (hin : ∀ P ∈ L, HistAt w P.h P.pv P.nv ∧ P.h.ok ∧ P.h.pl.length ≤ 160 ∧ P.h.nl.length ≤ 160)
    (hv : SlAt w (.slice ao l.length c) (ints l)) (hvo : ∀ k, (Value.slice ao l.length c).ownBlock = some k → k < w.heap.size) (hc : l.length ≤ c) (hl : l.length ≤ 100000000) (h1 : (bitsR l 0 0 1).1 = 1) (hL0 : 0 < L.length) :
    Calls Tryd.prog 45 #[.slice rao L.length rc, .slice ao l.length c] w (GetD w (docG L.length (lastH L) l)) := by
  have hD : docG L.length (lastH L) l = finD L.length (lastH L) true (shOf (lastH L)) (smN (some (cntL (lastH L))) l (bitsR l 0 0 1).2.1 (bitsR l 0 0 1).2.2 (1 + (lastH L).pl.length + (lastH L).nl.length)) := by unfold docG; rw [if_pos h1, if_neg (by omega)]
  obtain ⟨w0, hw0⟩ : ∃ w0, w0 = w.alloc (.cells #[.int .i64 0, .int .u64 0, .int .i64 0, .slice none 0 0, .int .i64 0, .slice none 0 0, .int .i64 0, .int .i64 0] 75) := ⟨_, rfl⟩
  have k0 : Kept (fun _ => False) w w0 := by rw [hw0]; exact (Kept.refl _ _).alloc _
  have hG0 : GotB w0 w.heap.size zeroH (.slice none 0 0) (.slice none 0 0) 0 0 := by rw [hw0]; exact heap_alloc_new w _
  obtain ⟨w1, hw1⟩ : ∃ w1, w1 = w0.alloc (.cells #[.slice ao l.length c, .int .i64 0, .int .i64 0] 112) := ⟨_, rfl⟩
  have k1 : Kept (fun _ => False) w0 w1 := by rw [hw1]; exact (Kept.refl _ _).alloc _
  have hs1 : StB w1 w0.heap.size (.slice ao l.length c) 0 0 := by rw [hw1]; exact heap_alloc_new w0 _
  have hs0 : w0.heap.size = w.heap.size + 1 := by rw [hw0]; simp
  have hT1 := bitsR_le (l := l) (t := 0) (E := 0) (n := 1) (Nat.zero_le _)
  have HB := Lib.hid (stBits_any w0.heap.size ao c l 0 0 1 w1 hs1 (hv.kept (k0.trans k1) (fun _ _ x => x)) (fun e => by have := hvo _ e; omega) hc (Nat.zero_le _) hl (by omega))
  obtain ⟨R0, hR0⟩ : ∃ R, R = bitsR l 0 0 1 := ⟨_, rfl⟩
  rw [← hR0] at h1 hT1 HB hD
  obtain ⟨v1, t1, E1⟩ := R0
  dsimp only at h1 hT1 HB hD
  subst h1
  unfold StTo at HB
  dsimp only at HB
  obtain ⟨Ln, hlv⟩ : ∃ k, k = l.length := ⟨_, rfl⟩
  rw [← hlv] at hw1 HB hv hvo hc ⊢
  obtain ⟨qg, hqg⟩ : ∃ q, q = w.heap.size := ⟨_, rfl⟩
  obtain ⟨qs, hqs⟩ : ∃ q, q = w0.heap.size := ⟨_, rfl⟩
  rw [← hqg] at hG0
  rw [← hqs] at HB
  have HGS := Lib.hid fun w2 w3 qh hx pv nv (hs : StB w2 qs (Value.slice ao Ln c) t1 E1) (k2 : Kept (fun k => k = qs) w1 w2) (k3 : Kept (fun _ => False) w2 w3) (hh : HistBox w3 qh hx pv nv) (hqh : w2.heap.size ≤ qh) =>
    (show GS w w3 qg qs qh (Value.slice ao Ln c) l t1 E1 hx pv nv from
      have kk : Kept (fun k => k = qs) w1 w3 := k2.step k3 (fun _ _ e => e.elim)
      have hsz := k2.size
      have hsz1 := k1.size
      ⟨(hG0.same k1 (fun x => x)).same kk (fun e => by omega), hs.same k3 (fun x => x), hh, (hv.kept (k0.trans k1) (fun _ _ x => x)).kept kk (fun j e e2 => by have := hvo _ e; omega), (k0.trans k1).new kk (by omega), by omega, by omega, by omega, ⟨ao, c, by rw [hlv], by rw [← hlv]; exact hc⟩, fun j e => by have := hvo _ e; omega, hT1, hl⟩)
  have HQ := Lib.hid (And.intro hqg hqs)
  have HW0 := Lib.hid hw0
  have HW1 := Lib.hid hw1
  have HT1 := Lib.hid hT1
  obtain ⟨m, hm⟩ : ∃ m, m + 1 = L.length := ⟨L.length - 1, by omega⟩
  have hLm : L[m]? = some L[m] := List.getElem?_eq_getElem (by omega)
  obtain ⟨P, hP⟩ : ∃ p, p = L[m] := ⟨_, rfl⟩
  rw [← hP] at hLm
  have hlast : lastH L = P.h := lastH_at (by rw [← hm]; exact hLm)
  obtain ⟨gb, ob, rfl, hrec⟩ := hr (by omega)
  have hPin := hin P (List.mem_of_getElem? hLm)
  have HEL := Lib.hid (hrec m P hLm)
  have HPA := Lib.hid hPin.1
  have HPO := Lib.hid hPin.2.1
  have HPL := Lib.hid hPin.2.2
  rw [hlast] at hD ⊢
  obtain ⟨n, hln⟩ : ∃ n, n = L.length := ⟨_, rfl⟩
  rw [← hln] at hm hLn hD ⊢
  have wm : IntKind.i64.wrap ((n : Int) - 1) = (m : Int) := by rw [IntWalk.i64_in _ ⟨by omega, by omega⟩]; omega
  have hmn : (m : Int) < (n : Int) := by omega
  have hm0 : (0 : Int) ≤ (m : Int) := by omega
  have hmnN : m < n := by omega
  have zq : ((n : Int) == 0) = false := beqF (by omega)
  have zg : (0 : Int) < (n : Int) := by omega
  have zd : decide ((0 : Int) < (n : Int)) = true := decide_eq_true (by omega)
  have HNP := Lib.hid (show 0 < n by omega)
  clear hr hin hLm hP hrec hPin hlast hln hm hL0
  have hso : (shOf P.h).ok := ⟨HPO.out.sc, HPO.out.po, HPO.out.no, HPL.out.1, HPL.out.2⟩
  have HALL := Lib.hid fun w' (k : HistAt w' P.h P.pv P.nv) => refAll_any P.h P.pv P.nv w' k (by have := HPL.out; omega) (by have := HPL.out; omega)
  obtain ⟨D, hDD⟩ : ∃ D, D = cntL P.h := ⟨_, rfl⟩
  rw [← hDD] at HALL hD
  have hDL : D.length = 1 + P.h.pl.length + P.h.nl.length := by rw [hDD, cntL_length]
  obtain ⟨⟨SC, ZE, PO, gpl, NO, gnl⟩, a1, c1, a2, c2⟩ := P
  unfold histV HP.pv HP.nv at HALL
  unfold HP.pv HP.nv at HPA
  dsimp only at HALL HPA HEL HPO HPL hD hDL hso ⊢
  have hse : shOf ⟨SC, ZE, PO, gpl, NO, gnl⟩ = ⟨SC, PO, gpl.length, NO, gnl.length⟩ := rfl
  rw [hse] at hD hso
  obtain ⟨G, hG⟩ : ∃ g : HistV, g = ⟨SC, ZE, PO, gpl, NO, gnl⟩ := ⟨_, rfl⟩
  rw [← hG] at hD HPA ⊢
  have HPE := Lib.hid hG
  have hpn : gpl.length ≤ 160 := hso.2.2.2.1
  have hnn : gnl.length ≤ 160 := hso.2.2.2.2
  clear hDD hse hG HPL HPO
  obtain ⟨PN, hPN⟩ : ∃ k, k = gpl.length := ⟨_, rfl⟩
  obtain ⟨NN, hNN⟩ : ∃ k, k = gnl.length := ⟨_, rfl⟩
  have hEL : ∀ w', Kept (fun _ => False) w w' → w'.cell? ⟨gb, ob + m * 6, none⟩ = some (.int .i64 SC) ∧ w'.cell? ⟨gb, ob + m * 6 + 1, none⟩ = some (.int .u64 (ZE : Int)) ∧ w'.cell? ⟨gb, ob + m * 6 + 2, none⟩ = some (.int .i64 PO) ∧ w'.cell? ⟨gb, ob + m * 6 + 3, none⟩ = some (.slice a1 PN c1) ∧ w'.cell? ⟨gb, ob + m * 6 + 4, none⟩ = some (.int .i64 NO) ∧ w'.cell? ⟨gb, ob + m * 6 + 5, none⟩ = some (.slice a2 NN c2) := by
    intro w' k
    have h := HEL.out.keptS k (fun x => x)
    rw [hPN, hNN]
    exact ⟨h.c0, h.c1, h.c2, h.c3, h.c4, h.c5⟩
  have HELL := Lib.hid hEL
  have HPB : Hid (∀ w', HistBox w' qg G (.slice a1 PN c1) (.slice a2 NN c2) ↔ HistBox w' qg ⟨SC, ZE, PO, [], NO, []⟩ (.slice a1 PN c1) (.slice a2 NN c2)) := Lib.hid (fun w' => by rw [HPE.out]; exact Iff.rfl)
  rw [← hPN] at hpn
  rw [← hNN] at hnn
  rw [← hPN, ← hNN] at HALL hD hDL hso
  have HAt := Lib.hid (show HistAt w G (.slice a1 PN c1) (.slice a2 NN c2) by have h := HPA.out; rw [HPE.out] at h ⊢; rw [hPN, hNN]; exact h)
  have HALL' := Lib.hid fun w' (k : Kept (fun _ => False) w w') => HALL.out w' (by have h := HAt.out.on k; rw [HPE.out] at h; exact h)
  clear HEL HPA hEL HALL hPN hNN HPB
  obtain ⟨K1, hK1⟩ : ∃ k, k = 1 + PN := ⟨_, rfl⟩
  obtain ⟨N, hN⟩ : ∃ k, k = 1 + PN + NN := ⟨_, rfl⟩
  rw [← hN] at hD hDL
  have wA : IntKind.i64.wrap (1 + (PN : Int)) = (K1 : Int) := by rw [IntWalk.i64_in _ ⟨by omega, by omega⟩]; omega
  have wB : IntKind.i64.wrap ((K1 : Int) + (NN : Int)) = (N : Int) := by rw [IntWalk.i64_in _ ⟨by omega, by omega⟩]; omega
  have HN := Lib.hid (show N ≤ 400 ∧ K1 = 1 + PN ∧ N = 1 + PN + NN ∧ 0 < N from ⟨by omega, hK1, hN, by omega⟩)
  have HSO := Lib.hid hso
  have HD := Lib.hid hD
  have HDL := Lib.hid hDL
  clear hv hvo hc hl hw0 k0 hG0 hw1 k1 hs1 hs0 hT1 hlv hqg hqs hR0 hLn hpn hnn hK1 hN hso hD hDL
  go_enter Tryd.func45, Tryd.ntmps45
  go_upto_region 1 with fail
  rw [← HW0.out, ← HQ.out.1]
  go_upto_region 2 with fail
  rw [← HW1.out, ← HQ.out.2]
  go_wp2_with fail
  refine HB.out.mono ?_
  rintro e w2 ⟨rfl, hs, hk⟩
  obtain ⟨w3, hw3⟩ : ∃ w', w' = w2.alloc (.cells #[.int .i64 0, .int .u64 0, .int .i64 0, .slice none 0 0, .int .i64 0, .slice none 0 0] 62) := ⟨_, rfl⟩
  have k3 : Kept (fun _ => False) w2 w3 := by rw [hw3]; exact (Kept.refl _ _).alloc _
  obtain ⟨qh, hqh⟩ : ∃ q, q = w2.heap.size := ⟨_, rfl⟩
  have HX3 := Lib.hid (HGS.out w2 w3 qh zeroH (.slice none 0 0) (.slice none 0 0) hs hk k3 (by rw [hw3, hqh]; exact heap_alloc_new w2 _) (by omega))
  have HW3 := Lib.hid hw3
  clear hs hk hw3 k3 HGS
  go_upto_region 6 with fail
  rw [← HW3.out, ← hqh]
  clear hqh
  obtain ⟨x0, x1, x2, x3, x4, x5⟩ := HELL.out w3 HX3.out.k
  obtain ⟨f0, f1, f2, f3, f4, f5⟩ := HX3.out.h.f
  obtain ⟨y0, y1, y2, y3, y4, y5⟩ := HX3.out.h.c
  try dsimp only [zeroH] at y0 y1 y2 y3 y4 y5
  obtain ⟨w4, hw4⟩ : ∃ w', w' = set6 w3 qh (.int .i64 SC) (.int .u64 (ZE : Int)) (.int .i64 PO) (.slice a1 PN c1) (.int .i64 NO) (.slice a2 NN c2) := ⟨_, rfl⟩
  have k4 : Kept (fun k => k = qh) w3 w4 := by rw [hw4]; exact set6_kept _ _ _ _ _ _ _ _
  have HX4 := Lib.hid (HX3.out.hset (show HistBox w4 qh ⟨SC, ZE, PO, [], NO, []⟩ (.slice a1 PN c1) (.slice a2 NN c2) by rw [hw4]; exact HX3.out.h.set ⟨SC, ZE, PO, [], NO, []⟩ (.slice a1 PN c1) (.slice a2 NN c2)) k4)
  unfold set6 at hw4
  have HW4 := Lib.hid hw4
  clear hw4 k4
  go_upto_region 9 with fail
  rw [← HW4.out]
  clear x0 x1 x2 x3 x4 x5 f0 f1 f2 f3 f4 f5 y0 y1 y2 y3 y4 y5
  obtain ⟨x0, x1, x2, x3, x4, x5⟩ := HX4.out.h.c
  dsimp only at x0 x1 x2 x3 x4 x5
  go_wp2_with fail
  refine (HALL'.out w4 HX4.out.k).mono ?_
  rintro e wb ⟨aw, cw, rfl, mw⟩
  have HX5 := Lib.hid (HX4.out.on mw.kept)
  obtain ⟨wl, hwl⟩ : ∃ k, k = D.length := ⟨_, rfl⟩
  rw [← hwl] at mw ⊢
  have HWS := Lib.hid mw.at_
  have HWB := Lib.hid (show ∀ k, (Value.slice aw wl cw).ownBlock = some k → k < wb.heap.size from fun k e => (ownsRow_lt mw.own e).1)
  have HWL := Lib.hid (show wl = N by rw [hwl]; exact HDL.out)
  have HWQ := Lib.hid (show (Value.slice aw wl cw).ownBlock ≠ some qs from own_box mw.own HX5.out.s (by decide))
  clear x0 x1 x2 x3 x4 x5 mw hwl
  obtain ⟨x0, x1, x2, x3, x4, x5⟩ := HX5.out.h.c
  dsimp only at x0 x1 x2 x3 x4 x5
  have HWW := Lib.hid (show w.heap.size ≤ wb.heap.size from HX5.out.k.size)
  go_wp2
  go_loopg [9, 11] N (fun g s9 s11 wr => ∃ i : Nat, i ≤ N ∧ g = N - i ∧ s11 = .int .i64 i ∧ GS w wr qg qs qh (Value.slice ao Ln c) l (smN (some D) l t1 E1 i).2.1 (smN (some D) l t1 E1 i).2.2 ⟨SC, ZE, PO, [], NO, []⟩ (.slice a1 PN c1) (.slice a2 NN c2) ∧ OwnU wb wr s9 (smN (some D) l t1 E1 i).1 ∧ wb.heap.size ≤ wr.heap.size ∧ SlAt wr (.slice aw wl cw) (uvals D))
  case atStart => exact ⟨0, Nat.zero_le _, rfl, rfl, HX5.out, OwnU.nil _ _, Nat.le_refl _, HWS.out⟩
  case round =>
    obtain ⟨i, hiN, rfl, rfl, hX, hO, hsz, hws⟩ := hrel
    have hsl := smN_len (some D) l t1 E1 i
    obtain ⟨ax, cx, ex⟩ := hO.slice
    rw [hsl] at ex
    subst ex
    clear x0 x1 x2 x3 x4 x5
    have HSZ := Lib.hid hsz
    have HWR := Lib.hid hws
    clear hws
    by_cases hd : i < N
    · have hdi : (i : Int) < (N : Int) := by omega
      have HDI := Lib.hid hd
      have wi : IntKind.i64.wrap ((i : Int) + 1) = ((i + 1 : Nat) : Int) := by rw [IntWalk.i64_in _ ⟨by omega, by have := HN.out; omega⟩]; omega
      have hsu := smN_succ (some D) l t1 E1 i
      obtain ⟨s, hs⟩ : ∃ s, s = (smN (some D) l t1 E1 i) := ⟨_, rfl⟩
      rw [← hs] at hX hO hsl hsu
      obtain ⟨vs, T, EE⟩ := s
      dsimp only at hX hO hsl hsu
      have HX := Lib.hid hX
      have HO := Lib.hid hO
      have HSL := Lib.hid hsl
      have HSM := Lib.hid (gs_small hX)
      have hu := smallR_u64 l T EE
      obtain ⟨RR, hRR⟩ : ∃ R, R = smallR l T EE := ⟨_, rfl⟩
      rw [← hRR] at HSM hsu hu
      obtain ⟨v, T2, EE2⟩ := RR
      unfold GTo at HSM
      dsimp only at HSM hsu hu
      have HZ := Lib.hid fun w' => refZag_any (v : Int) (by omega) (by omega) w'
      obtain ⟨Z, hZ⟩ : ∃ z, z = zagI (v : Int) := ⟨_, rfl⟩
      have hnw : numW (some D) i v = addU (D.getD i 0) Z := by rw [hZ]; rfl
      rw [← hZ] at HZ
      rw [hnw] at hsu
      obtain ⟨y, hy⟩ : ∃ y, y = D.getD i 0 := ⟨_, rfl⟩
      obtain ⟨gq, off, ha3, hc3⟩ := HWR.out.elem (uvals_get (l := D) (j := i) (by have := HDL.out; omega))
      cases ha3
      rw [← hy] at hc3 hsu
      have haw := addU_wrap y Z
      obtain ⟨NV, hNV⟩ : ∃ z, z = addU y Z := ⟨_, rfl⟩
      rw [← hNV] at haw hsu
      obtain ⟨UZ, hUZ⟩ : ∃ z, z = IntKind.u64.wrap Z := ⟨_, rfl⟩
      rw [← hUZ] at haw
      replace hUZ := hUZ.symm
      have hwl1 : (i : Int) < (wl : Int) := by have := HWL.out; omega
      have HC3 := Lib.hid hc3
      have HSU := Lib.hid hsu
      have HYY := Lib.hid hy
      clear hsu hs hd hX hO hsl hu hRR hZ hnw hy hNV hc3
      have hi0 : (0 : Int) ≤ (i : Int) := by omega
      go_wp2_with fail
      refine HSM.out.mono ?_
      rintro e w6 ⟨rfl, X6, k6⟩
      have HX6 := Lib.hid X6
      have HO6 := Lib.hid (HO.out.kept k6 (fun k e e2 => own_box HO.out HX.out.s (by decide) (by rw [e, e2])))
      have HS6 := Lib.hid (show wb.heap.size ≤ w6.heap.size by have := HSZ.out; have := k6.size; omega)
      have HW6 := Lib.hid (HWR.out.kept k6 (fun k e e2 => HWQ.out (by rw [e, e2])))
      obtain ⟨gq', off', e6, hc6⟩ := HW6.out.elem (uvals_get (l := D) (j := i) (by have := HDL.out; have := HDI.out; omega))
      injection e6 with e6
      injection e6 with e6 e7
      subst e6 e7
      have hkd := (Kept.refl (fun _ => False) w6).drew
      have HSSa : Hid ((fun w' => w'.cell? ⟨gq, off + i, none⟩ = some (.int .u64 (y : Int))) w6.drew) := Lib.hid (hkd.cell (by rw [HYY.out]; exact hc6) (fun x => x))
      have HKD := Lib.hid hkd
      clear X6 k6 hkd hc6
      go_upto_region 20 with fail
      refine AnyBut.start (S := fun w' => w'.cell? ⟨gq, off + i, none⟩ = some (.int .u64 (y : Int))) (k := 8) (by kernel_rfl) ?_
      refine AnyBut.take (i := 0) (v := ?v1) rfl (by kernel_rfl) (by kernel_rfl) (by kernel_rfl) (by kernel_rfl) (fun _ _ _ h => h) (HSSa.out) (Or.inl ⟨by kernel_rfl, ?hy1⟩) ?r1
      case hy1 =>
        intro w hSw
        try dsimp only at hSw
        go_simp
        try with_reducible rfl
      try simp only [Act.put, List.getElem_toArray, List.getElem_cons_zero, List.setIfInBounds_toArray, List.set_cons_zero, List.set_cons_succ]
      refine AnyBut.take (i := 1) (v := ?v2) rfl (by kernel_rfl) (by kernel_rfl) (by kernel_rfl) (by kernel_rfl) (fun _ _ _ h => h) (HSSa.out) (Or.inl ⟨by kernel_rfl, ?hy2⟩) ?r2
      case hy2 =>
        intro w hSw
        try dsimp only at hSw
        go_simp
        try with_reducible rfl
      try simp only [Act.put, List.getElem_toArray, List.getElem_cons_succ, List.getElem_cons_zero, List.setIfInBounds_toArray, List.set_cons_zero, List.set_cons_succ]
      refine AnyBut.take (i := 2) (v := ?v3) rfl (by kernel_rfl) (by kernel_rfl) (by kernel_rfl) (by kernel_rfl) (fun _ _ _ h => h) (HSSa.out) (Or.inl ⟨by kernel_rfl, ?hy3⟩) ?r3
      case hy3 =>
        intro w hSw
        try dsimp only at hSw
        go_simp
        try with_reducible rfl
      try simp only [Act.put, List.getElem_toArray, List.getElem_cons_succ, List.getElem_cons_zero, List.setIfInBounds_toArray, List.set_cons_zero, List.set_cons_succ]
      refine AnyBut.take (i := 3) (v := ?v4) rfl (by kernel_rfl) (by kernel_rfl) (by kernel_rfl) (by kernel_rfl) (fun _ _ _ h => h) (HSSa.out) (Or.inl ⟨by kernel_rfl, ?hy4⟩) ?r4
      case hy4 =>
        intro w hSw
        try dsimp only at hSw
        go_simp
        try with_reducible rfl
      try simp only [Act.put, List.getElem_toArray, List.getElem_cons_succ, List.getElem_cons_zero, List.setIfInBounds_toArray, List.set_cons_zero, List.set_cons_succ]
      refine AnyBut.take (i := 4) (v := ?v5) rfl (by kernel_rfl) (by kernel_rfl) (by kernel_rfl) (by kernel_rfl) (fun _ _ _ h => h) (HSSa.out) (Or.inl ⟨by kernel_rfl, ?hy5⟩) ?r5
      case hy5 =>
        intro w hSw
        try dsimp only at hSw
        go_simp
        try with_reducible rfl
      try simp only [Act.put, List.getElem_toArray, List.getElem_cons_succ, List.getElem_cons_zero, List.setIfInBounds_toArray, List.set_cons_zero, List.set_cons_succ]
      refine AnyBut.one (i := 5) (by kernel_rfl) rfl (fun K hK => ?_)
      go_simp
      go_wp2_with fail
      refine (HZ.out _).mono ?_
      rintro e w' ⟨rfl, rfl⟩
      go_wp2
      refine hK.out _ _ (HSSa.out) ?_
      clear hK K
      try simp only [Act.put, List.getElem_toArray, List.getElem_cons_succ, List.getElem_cons_zero, List.setIfInBounds_toArray, List.set_cons_zero, List.set_cons_succ]
      refine AnyBut.take (i := 6) (v := ?v6) rfl (by kernel_rfl) (by kernel_rfl) (by kernel_rfl) (by kernel_rfl) (fun _ _ _ h => h) (HSSa.out) (Or.inl ⟨by kernel_rfl, ?hy6⟩) ?r6
      case hy6 =>
        intro w hSw
        try dsimp only at hSw
        go_simp
        try with_reducible rfl
      try simp only [Act.put, List.getElem_toArray, List.getElem_cons_succ, List.getElem_cons_zero, List.setIfInBounds_toArray, List.set_cons_zero, List.set_cons_succ]
      refine AnyBut.take (i := 7) (v := ?v7) rfl (by kernel_rfl) (by kernel_rfl) (by kernel_rfl) (by kernel_rfl) (fun _ _ _ h => h) (HSSa.out) (Or.inl ⟨by kernel_rfl, ?hy7⟩) ?r7
      case hy7 =>
        intro w hSw
        try dsimp only at hSw
        go_simp
        try with_reducible rfl
      try simp only [Act.put, List.getElem_toArray, List.getElem_cons_succ, List.getElem_cons_zero, List.setIfInBounds_toArray, List.set_cons_zero, List.set_cons_succ]
      refine AnyBut.last (by kernel_rfl) rfl (by kernel_rfl) (fun K hK => ?_)
      go_simp
      refine hK.out _ _ ?_
      clear hK K
      try simp only [Act.put, List.getElem_toArray, List.getElem_cons_succ, List.getElem_cons_zero, List.setIfInBounds_toArray, List.set_cons_zero, List.set_cons_succ]
      obtain ⟨w7, hw7⟩ : ∃ w', w' = w6.drew := ⟨_, rfl⟩
      rw [← hw7]
      have HX7 := Lib.hid (show GS w w7 qg qs qh (Value.slice ao Ln c) l T2 EE2 ⟨SC, ZE, PO, [], NO, []⟩ (.slice a1 PN c1) (.slice a2 NN c2) by rw [hw7]; exact HX6.out.on HKD.out)
      have HO7 := Lib.hid (show OwnU wb w7 (.slice ax i cx) vs by rw [hw7]; exact HO6.out.kept HKD.out (fun _ _ x => x))
      have HW7 := Lib.hid (show SlAt w7 (.slice (some ⟨gq, off, none⟩) wl cw) (uvals D) by rw [hw7]; exact HW6.out.kept HKD.out (fun _ _ x => x))
      have HS7 := Lib.hid (show wb.heap.size ≤ w7.heap.size by rw [hw7]; have := HKD.out.size; have := HS6.out; omega)
      clear hw7
      have k8 : Kept (fun _ => False) w7 (w7.alloc (.cells #[.int .u64 (NV : Int)] 28)) := (Kept.refl _ _).alloc _
      have HX8 := Lib.hid (HX7.out.on k8)
      have HO8 := Lib.hid (HO7.out.kept k8 (fun _ _ x => x))
      have HS8 := Lib.hid (show wb.heap.size ≤ (w7.alloc (.cells #[.int .u64 (NV : Int)] 28)).heap.size by have := k8.size; have := HS7.out; omega)
      have HW8 := Lib.hid (HW7.out.kept k8 (fun _ _ x => x))
      clear k8
      have HLV := Lib.hid (show vs.length ≤ 1000000 by rw [HSL.out]; have := HDI.out; have := HN.out; omega)
      go_wp2_with (at_builtin; refine wpList_ownU rfl (.tmp 74) (.tmp 76) rfl wb (.slice ax i cx) vs rfl HO8.out HS8.out _ NV rfl (src_oneU w7 (.int .u64 (NV : Int)) rfl) HLV.out ?_; intro v9 w9 ho9 hk9 hat9; have HO9 := Lib.hid ho9; have HX9' := Lib.hid (HX8.out.grown HO8.out HWW.out hk9); have HS9 := Lib.hid (show wb.heap.size ≤ w9.heap.size by have := HS8.out; have := hk9.size; omega); have HW9 := Lib.hid (HW8.out.kept hk9 (fun k e e2 => by have := HWB.out k e; have := (ownsRow_lt HO8.out e2).2; omega)); clear ho9 hk9 hat9)
      go_roundg (N - (i + 1))
      case measure => have := HDI.out; omega
      case rel => exact ⟨i + 1, HDI.out, rfl, rfl, by rw [HSU.out]; exact HX9'.out, by rw [HSU.out]; exact HO9.out, HS9.out, HW9.out⟩
    · obtain rfl : N = i := by omega
      have hU := smN_u64 (some D) l t1 E1 N
      obtain ⟨s, hs⟩ : ∃ s, s = (smN (some D) l t1 E1 N) := ⟨_, rfl⟩
      rw [← hs] at hX hO hsl hU HD
      obtain ⟨vs, T, EE⟩ := s
      dsimp only at hX hO hsl hU HD
      have HX := Lib.hid hX
      have HO := Lib.hid hO
      have HSL := Lib.hid hsl
      have HU := Lib.hid hU
      obtain ⟨⟨s0, s1, s2⟩, g1, g2⟩ := hX.s.c
      clear hX hO hsl hU hs hd hiN
      by_cases hE : EE = 0
      · have qE : ((EE : Int) != 0) = false := bneF (by omega)
        subst hE
        have hcap : N ≤ cx := by have h := own_cap HO.out; rw [HSL.out] at h; exact h
        obtain ⟨g4, o4, ha4, hc4⟩ := HO.out.at_.elem (uvals_get (l := vs) (j := 0) (by rw [HSL.out]; have := HN.out; omega))
        subst ha4
        obtain ⟨v0, hv0⟩ : ∃ v, v = vs.getD 0 0 := ⟨_, rfl⟩
        rw [← hv0, Nat.add_zero] at hc4
        have HC4 := Lib.hid hc4
        have HMK := Lib.hid (show mkH ⟨SC, PO, PN, NO, NN⟩ vs = ⟨SC, v0, PO, (vs.drop 1).take PN, NO, vs.drop (1 + PN)⟩ by rw [hv0]; rfl)
        have hat := mkH_at (s := ⟨SC, PO, PN, NO, NN⟩) HO.out.at_ HN.out.2.2.1 hcap
        dsimp only at hat
        obtain ⟨iU, hiU, hzU0, hzU1, hzU2⟩ := info_parts Tryd.infoU64
        have hcut : ∀ w', _ := fun w' => run_cut (P := Tryd.prog) Tryd.underlying22 hiU hzU1 (some ⟨g4, o4, none⟩) N cx 1 (1 + PN) (by omega) (by have := HN.out; omega) w'
        have hcut2 : ∀ w', _ := fun w' => run_cutL (P := Tryd.prog) Tryd.underlying22 hiU hzU1 (some ⟨g4, o4, none⟩) N cx (1 + PN) (by have := HN.out; omega) w'
        rw [← HN.out.2.1] at hcut hcut2 hat
        rw [show K1 - 1 = PN by have := HN.out; omega] at hcut
        rw [show N - K1 = NN by have := HN.out; omega] at hcut2
        obtain ⟨ap, hap⟩ : ∃ a, a = (if cx = 1 then some (⟨g4, o4, none⟩ : Addr) else (some (⟨g4, o4, none⟩ : Addr)).map (·.add 1)) := ⟨_, rfl⟩
        obtain ⟨an, han⟩ : ∃ a, a = (if cx = K1 then some (⟨g4, o4, none⟩ : Addr) else (some (⟨g4, o4, none⟩ : Addr)).map (·.add K1)) := ⟨_, rfl⟩
        rw [← hap] at hcut hat
        rw [← han] at hcut2 hat
        obtain ⟨cp, hcp⟩ : ∃ a, a = cx - 1 := ⟨_, rfl⟩
        obtain ⟨cn, hcn⟩ : ∃ a, a = cx - K1 := ⟨_, rfl⟩
        rw [← hcp] at hcut hat
        rw [← hcn] at hcut2 hat
        have hcutE : ∀ w', (Instr.slice 22 (.slice (some ⟨g4, o4, none⟩) N cx) (some (.int .i64 1)) (some (.int .i64 (K1 : Int))) none).run Tryd.prog w' = .ok (.slice ap PN cp) w' := hcut
        have hbl : (Value.slice ap PN cp).ownBlock ≠ some qh ∧ (Value.slice an NN cn).ownBlock ≠ some qh := ⟨fun e => by rw [hap, cut_block _ _ _ _ N _ cx] at e; exact own_box HO.out HX.out.h (by decide) e, fun e => by rw [han, cut_block _ _ _ _ N _ cx] at e; exact own_box HO.out HX.out.h (by decide) e⟩
        have HBG := Lib.hid (show (Value.slice ap PN cp).ownBlock ≠ some qg ∧ (Value.slice an NN cn).ownBlock ≠ some qg from ⟨fun e => by rw [hap, cut_block _ _ _ _ N _ cx] at e; exact own_box HO.out HX.out.g (by decide) e, fun e => by rw [han, cut_block _ _ _ _ N _ cx] at e; exact own_box HO.out HX.out.g (by decide) e⟩)
        have HNC := Lib.hid (show NewC w.heap.size (.slice ap PN cp) (.slice an NN cn) from by rintro k (e | e); (rw [hap, cut_block _ _ _ _ N _ cx] at e; have := (ownsRow_lt HO.out e).2; have := HWW.out; omega); (rw [han, cut_block _ _ _ _ N _ cx] at e; have := (ownsRow_lt HO.out e).2; have := HWW.out; omega))
        have HAT := Lib.hid hat
        obtain ⟨x0, x1, x2, x3, x4, x5⟩ := HX.out.h.c
        dsimp only at x0 x1 x2 x3 x4 x5
        obtain ⟨f0, f1, f2, f3, f4, f5⟩ := HX.out.h.f
        have n0 : (0 : Int) < (N : Int) := by have := HN.out; omega
        obtain ⟨w6, hw6⟩ : ∃ w', w' = ((wr.setCell ⟨qh, 1, none⟩ (.int .u64 (v0 : Int))).setCell ⟨qh, 3, none⟩ (.slice ap PN cp)).setCell ⟨qh, 5, none⟩ (.slice an NN cn) := ⟨_, rfl⟩
        have k6 : Kept (fun k => k = qh) wr w6 := by rw [hw6]; exact setC_kept _ _ _ _ _
        have HX6 := Lib.hid (HX.out.hset (show HistBox w6 qh ⟨SC, v0, PO, [], NO, []⟩ (.slice ap PN cp) (.slice an NN cn) by rw [hw6]; exact HX.out.h.setC v0 _ _) k6)
        have HA6 := Lib.hid (HAT.out.kept k6 (fun k e e2 => hbl.1 (by rw [e, e2])) (fun k e e2 => hbl.2 (by rw [e, e2])))
        have HW6 := Lib.hid hw6
        clear hw6 k6 hat hbl hap han hcp hcn hv0 hcut
        go_upto_region 28 with fail
        rw [← HW6.out]
        clear x0 x1 x2 x3 x4 x5 f0 f1 f2 f3 f4 f5 hc4 hcutE hcut2
        obtain ⟨x0, x1, x2, x3, x4, x5⟩ := HX6.out.h.c
        dsimp only at x0 x1 x2 x3 x4 x5
        have hok := mkH_ok (s := ⟨SC, PO, PN, NO, NN⟩) HSO.out HU.out
        have hlen : (mkH ⟨SC, PO, PN, NO, NN⟩ vs).pl.length = PN ∧ (mkH ⟨SC, PO, PN, NO, NN⟩ vs).nl.length = NN := by have h := HA6.out; exact ⟨by rw [HMK.out]; show ((vs.drop 1).take PN).length = PN; rw [List.length_take, List.length_drop, HSL.out]; have := HN.out; omega, by rw [HMK.out]; show (vs.drop (1 + PN)).length = NN; rw [List.length_drop, HSL.out]; have := HN.out; omega⟩
        have HCK := Lib.hid fun w' (k : HistAt w' (mkH ⟨SC, PO, PN, NO, NN⟩ vs) (.slice ap PN cp) (.slice an NN cn)) => refCheck_any (mkH ⟨SC, PO, PN, NO, NN⟩ vs) _ _ w' k hok (by rw [hlen.1]; have := HN.out; omega) (by rw [hlen.2]; have := HN.out; omega)
        have HER := Lib.hid (show ∀ (x : Nat), x = (mkH ⟨SC, PO, PN, NO, NN⟩ vs).err → x = (mkH ⟨SC, PO, PN, NO, NN⟩ vs).err from fun _ h => h)
        obtain ⟨ER, hER⟩ : ∃ e, e = (mkH ⟨SC, PO, PN, NO, NN⟩ vs).err := ⟨_, rfl⟩
        rw [← hER] at HCK
        have HSHE := Lib.hid (show shOf (mkH ⟨SC, PO, PN, NO, NN⟩ vs) = ⟨SC, PO, PN, NO, NN⟩ from (cnt_mk ⟨SC, PO, PN, NO, NN⟩ vs (by rw [HSL.out]; exact HN.out.2.2.1)).2)
        obtain ⟨HH, hHH⟩ : ∃ h, h = mkH ⟨SC, PO, PN, NO, NN⟩ vs := ⟨_, rfl⟩
        rw [← hHH] at HCK HMK HSHE HA6 hER
        have HRES := Lib.hid (HD.out.trans (show finD n G true ⟨SC, PO, PN, NO, NN⟩ (vs, T, 0) = (if ER ≠ 0 then (zeroH, 0, ER) else if true = false ∧ 0 < n ∧ ⟨SC, PO, PN, NO, NN⟩ = shOf G then (zeroH, 0, 3) else (HH, T, 0)) by unfold finD; rw [hER, hHH]; exact if_neg (fun e => e rfl)))
        have HCK2 := HCK
        unfold histV at HCK2
        rw [HMK.out] at HCK2
        dsimp only at HCK2
        have HAM := Lib.hid (show ∀ w', HistAt w' HH (.slice ap PN cp) (.slice an NN cn) → HistAt w' ⟨SC, v0, PO, (vs.drop 1).take PN, NO, vs.drop (1 + PN)⟩ (.slice ap PN cp) (.slice an NN cn) from fun w' h => by rw [HMK.out] at h; exact h)
        clear hok hlen hER hHH HER HCK
        go_wp2_with fail
        refine (HCK2.out w6 (HAM.out w6 HA6.out)).mono ?_
        rintro e w7 ⟨rfl, k7⟩
        have HX7 := Lib.hid (HX6.out.on k7)
        have HA7 := Lib.hid (HA6.out.on k7)
        clear k7 x0 x1 x2 x3 x4 x5
        by_cases hER : ER = 0
        · have qR : ((ER : Int) != 0) = false := bneF (by omega)
          have HR1 := Lib.hid (HRES.out.trans (if_neg (fun e => e hER)))
          clear hER
          have HR := Lib.hid (HR1.out.trans (if_neg (fun e => by have := e.1; cases this)))
          go_upto_region 31 with fail
          refine AnyBut.start (S := fun _ => True) (k := 17) (by kernel_rfl) ?_
          refine AnyBut.takeS (i := 0) (v := ?v8) rfl (by kernel_rfl) (Nat.le_of_eq (by kernel_rfl)) (by kernel_rfl) (by kernel_rfl) (fun _ _ _ h => h) (trivial) (Or.inl ⟨by kernel_rfl, ?hy8⟩) ?r8
          case hy8 =>
            intro w hSw
            try dsimp only at hSw
            go_simp
            try with_reducible rfl
          try simp only [Act.put, List.getElem_toArray, List.getElem_cons_zero, List.setIfInBounds_toArray, List.set_cons_zero, List.set_cons_succ]
          refine AnyBut.takeS (i := 1) (v := ?v9) rfl (by kernel_rfl) (Nat.le_of_eq (by kernel_rfl)) (by kernel_rfl) (by kernel_rfl) (fun _ _ _ h => h) (trivial) (Or.inl ⟨by kernel_rfl, ?hy9⟩) ?r9
          case hy9 =>
            intro w hSw
            try dsimp only at hSw
            go_simp
            try with_reducible rfl
          try simp only [Act.put, List.getElem_toArray, List.getElem_cons_succ, List.getElem_cons_zero, List.setIfInBounds_toArray, List.set_cons_zero, List.set_cons_succ]
          refine AnyBut.takeS (i := 2) (v := ?v10) rfl (by kernel_rfl) (Nat.le_of_eq (by kernel_rfl)) (by kernel_rfl) (by kernel_rfl) (fun _ _ _ h => h) (trivial) (Or.inl ⟨by kernel_rfl, ?hy10⟩) ?r10
          case hy10 =>
            intro w hSw
            try dsimp only at hSw
            go_simp
            try with_reducible rfl
          try simp only [Act.put, List.getElem_toArray, List.getElem_cons_succ, List.getElem_cons_zero, List.setIfInBounds_toArray, List.set_cons_zero, List.set_cons_succ]
          refine AnyBut.takeS (i := 3) (v := undef) rfl (by kernel_rfl) (Nat.le_of_eq (by kernel_rfl)) (by kernel_rfl) (by kernel_rfl) (fun _ _ _ h => h) (trivial) (Or.inr ⟨by kernel_rfl, rfl⟩) ?r11
          try simp only [Act.put, List.getElem_toArray, List.getElem_cons_succ, List.getElem_cons_zero, List.setIfInBounds_toArray, List.set_cons_zero, List.set_cons_succ]
          refine AnyBut.takeS (i := 4) (v := undef) rfl (by kernel_rfl) (Nat.le_of_eq (by kernel_rfl)) (by kernel_rfl) (by kernel_rfl) (fun _ _ _ h => h) (trivial) (Or.inr ⟨by kernel_rfl, rfl⟩) ?r12
          try simp only [Act.put, List.getElem_toArray, List.getElem_cons_succ, List.getElem_cons_zero, List.setIfInBounds_toArray, List.set_cons_zero, List.set_cons_succ]
          refine AnyBut.takeS (i := 5) (v := undef) rfl (by kernel_rfl) (Nat.le_of_eq (by kernel_rfl)) (by kernel_rfl) (by kernel_rfl) (fun _ _ _ h => h) (trivial) (Or.inr ⟨by kernel_rfl, rfl⟩) ?r13
          try simp only [Act.put, List.getElem_toArray, List.getElem_cons_succ, List.getElem_cons_zero, List.setIfInBounds_toArray, List.set_cons_zero, List.set_cons_succ]
          refine AnyBut.takeS (i := 6) (v := ?v14) rfl (by kernel_rfl) (Nat.le_of_eq (by kernel_rfl)) (by kernel_rfl) (by kernel_rfl) (fun _ _ _ h => h) (trivial) (Or.inl ⟨by kernel_rfl, ?hy14⟩) ?r14
          case hy14 =>
            intro w hSw
            try dsimp only at hSw
            go_simp
            try with_reducible rfl
          try simp only [Act.put, List.getElem_toArray, List.getElem_cons_succ, List.getElem_cons_zero, List.setIfInBounds_toArray, List.set_cons_zero, List.set_cons_succ]
          refine AnyBut.takeS (i := 7) (v := ?v15) rfl (by kernel_rfl) (Nat.le_of_eq (by kernel_rfl)) (by kernel_rfl) (by kernel_rfl) (fun _ _ _ h => h) (trivial) (Or.inl ⟨by kernel_rfl, ?hy15⟩) ?r15
          case hy15 =>
            intro w hSw
            try dsimp only at hSw
            go_simp
            try with_reducible rfl
          try simp only [Act.put, List.getElem_toArray, List.getElem_cons_succ, List.getElem_cons_zero, List.setIfInBounds_toArray, List.set_cons_zero, List.set_cons_succ]
          refine AnyBut.takeS (i := 8) (v := undef) rfl (by kernel_rfl) (Nat.le_of_eq (by kernel_rfl)) (by kernel_rfl) (by kernel_rfl) (fun _ _ _ h => h) (trivial) (Or.inr ⟨by kernel_rfl, rfl⟩) ?r16
          try simp only [Act.put, List.getElem_toArray, List.getElem_cons_succ, List.getElem_cons_zero, List.setIfInBounds_toArray, List.set_cons_zero, List.set_cons_succ]
          refine AnyBut.takeS (i := 9) (v := undef) rfl (by kernel_rfl) (Nat.le_of_eq (by kernel_rfl)) (by kernel_rfl) (by kernel_rfl) (fun _ _ _ h => h) (trivial) (Or.inr ⟨by kernel_rfl, rfl⟩) ?r17
          try simp only [Act.put, List.getElem_toArray, List.getElem_cons_succ, List.getElem_cons_zero, List.setIfInBounds_toArray, List.set_cons_zero, List.set_cons_succ]
          refine AnyBut.takeS (i := 10) (v := undef) rfl (by kernel_rfl) (Nat.le_of_eq (by kernel_rfl)) (by kernel_rfl) (by kernel_rfl) (fun _ _ _ h => h) (trivial) (Or.inr ⟨by kernel_rfl, rfl⟩) ?r18
          try simp only [Act.put, List.getElem_toArray, List.getElem_cons_succ, List.getElem_cons_zero, List.setIfInBounds_toArray, List.set_cons_zero, List.set_cons_succ]
          refine AnyBut.takeS (i := 11) (v := undef) rfl (by kernel_rfl) (Nat.le_of_eq (by kernel_rfl)) (by kernel_rfl) (by kernel_rfl) (fun _ _ _ h => h) (trivial) (Or.inr ⟨by kernel_rfl, rfl⟩) ?r19
          try simp only [Act.put, List.getElem_toArray, List.getElem_cons_succ, List.getElem_cons_zero, List.setIfInBounds_toArray, List.set_cons_zero, List.set_cons_succ]
          refine AnyBut.takeS (i := 12) (v := undef) rfl (by kernel_rfl) (Nat.le_of_eq (by kernel_rfl)) (by kernel_rfl) (by kernel_rfl) (fun _ _ _ h => h) (trivial) (Or.inr ⟨by kernel_rfl, rfl⟩) ?r20
          try simp only [Act.put, List.getElem_toArray, List.getElem_cons_succ, List.getElem_cons_zero, List.setIfInBounds_toArray, List.set_cons_zero, List.set_cons_succ]
          refine AnyBut.takeS (i := 13) (v := undef) rfl (by kernel_rfl) (Nat.le_of_eq (by kernel_rfl)) (by kernel_rfl) (by kernel_rfl) (fun _ _ _ h => h) (trivial) (Or.inr ⟨by kernel_rfl, rfl⟩) ?r21
          try simp only [Act.put, List.getElem_toArray, List.getElem_cons_succ, List.getElem_cons_zero, List.setIfInBounds_toArray, List.set_cons_zero, List.set_cons_succ]
          refine AnyBut.takeS (i := 14) (v := undef) rfl (by kernel_rfl) (Nat.le_of_eq (by kernel_rfl)) (by kernel_rfl) (by kernel_rfl) (fun _ _ _ h => h) (trivial) (Or.inr ⟨by kernel_rfl, rfl⟩) ?r22
          try simp only [Act.put, List.getElem_toArray, List.getElem_cons_succ, List.getElem_cons_zero, List.setIfInBounds_toArray, List.set_cons_zero, List.set_cons_succ]
          refine AnyBut.takeS (i := 15) (v := undef) rfl (by kernel_rfl) (Nat.le_of_eq (by kernel_rfl)) (by kernel_rfl) (by kernel_rfl) (fun _ _ _ h => h) (trivial) (Or.inr ⟨by kernel_rfl, rfl⟩) ?r23
          try simp only [Act.put, List.getElem_toArray, List.getElem_cons_succ, List.getElem_cons_zero, List.setIfInBounds_toArray, List.set_cons_zero, List.set_cons_succ]
          refine AnyBut.takeS (i := 16) (v := ?v24) rfl (by kernel_rfl) (Nat.le_of_eq (by kernel_rfl)) (by kernel_rfl) (by kernel_rfl) (fun _ _ _ h => h) (trivial) (Or.inl ⟨by kernel_rfl, ?hy24⟩) ?r24
          case hy24 =>
            intro w hSw
            try dsimp only at hSw
            go_simp
            try with_reducible rfl
          try simp only [Act.put, List.getElem_toArray, List.getElem_cons_succ, List.getElem_cons_zero, List.setIfInBounds_toArray, List.set_cons_zero, List.set_cons_succ]
          refine AnyBut.done (by kernel_rfl) ?_
          obtain ⟨w8, hw8⟩ : ∃ w', w' = w7.drew := ⟨_, rfl⟩
          rw [← hw8]
          have k8 : Kept (fun _ => False) w7 w8 := by rw [hw8]; exact (Kept.refl _ _).drew
          have HX8 := Lib.hid (HX7.out.on k8)
          have HA8 := Lib.hid (HA7.out.on k8)
          clear hw8 k8
          have hkd := (Kept.refl (fun _ => False) w8).drew
          have HXe := Lib.hid (HX8.out.on hkd)
          have HAe := Lib.hid (HA8.out.on hkd)
          have HSSe : Hid ((fun w' => w'.cell? ⟨qh, 0, none⟩ = some (.int .i64 SC) ∧ w'.cell? ⟨qh, 1, none⟩ = some (.int .u64 (v0 : Int)) ∧ w'.cell? ⟨qh, 2, none⟩ = some (.int .i64 PO) ∧ w'.cell? ⟨qh, 3, none⟩ = some (.slice ap PN cp) ∧ w'.cell? ⟨qh, 4, none⟩ = some (.int .i64 NO) ∧ w'.cell? ⟨qh, 5, none⟩ = some (.slice an NN cn) ∧ w'.cell? ⟨qs, 1, none⟩ = some (.int .i64 (T : Int))) w8.drew) := by
            obtain ⟨x0, x1, x2, x3, x4, x5⟩ := HistBox.c (h := ⟨SC, v0, PO, [], NO, []⟩) HXe.out.h
            exact Lib.hid ⟨x0, x1, x2, x3, x4, x5, HXe.out.s.c.1.2.1⟩
          clear hkd
          go_upto_region 33 with fail
          refine AnyBut.start (S := fun w' => w'.cell? ⟨qh, 0, none⟩ = some (.int .i64 SC) ∧ w'.cell? ⟨qh, 1, none⟩ = some (.int .u64 (v0 : Int)) ∧ w'.cell? ⟨qh, 2, none⟩ = some (.int .i64 PO) ∧ w'.cell? ⟨qh, 3, none⟩ = some (.slice ap PN cp) ∧ w'.cell? ⟨qh, 4, none⟩ = some (.int .i64 NO) ∧ w'.cell? ⟨qh, 5, none⟩ = some (.slice an NN cn) ∧ w'.cell? ⟨qs, 1, none⟩ = some (.int .i64 (T : Int))) (k := 6) (by kernel_rfl) ?_
          refine AnyBut.take (i := 0) (v := ?v25) rfl (by kernel_rfl) (by kernel_rfl) (by kernel_rfl) (by kernel_rfl) (fun _ _ _ h => h) (HSSe.out) (Or.inl ⟨by kernel_rfl, ?hy25⟩) ?r25
          case hy25 =>
            intro w hSw
            try dsimp only at hSw
            go_simp
            try with_reducible rfl
          try simp only [Act.put, List.getElem_toArray, List.getElem_cons_zero, List.setIfInBounds_toArray, List.set_cons_zero, List.set_cons_succ]
          refine AnyBut.take (i := 1) (v := ?v26) rfl (by kernel_rfl) (by kernel_rfl) (by kernel_rfl) (by kernel_rfl) (fun _ _ _ h => h) (HSSe.out) (Or.inl ⟨by kernel_rfl, ?hy26⟩) ?r26
          case hy26 =>
            intro w hSw
            try dsimp only at hSw
            go_simp
            try with_reducible rfl
          try simp only [Act.put, List.getElem_toArray, List.getElem_cons_succ, List.getElem_cons_zero, List.setIfInBounds_toArray, List.set_cons_zero, List.set_cons_succ]
          refine AnyBut.take (i := 2) (v := ?v27) rfl (by kernel_rfl) (by kernel_rfl) (by kernel_rfl) (by kernel_rfl) (fun _ _ _ h => h) (HSSe.out) (Or.inl ⟨by kernel_rfl, ?hy27⟩) ?r27
          case hy27 =>
            intro w hSw
            try dsimp only at hSw
            go_simp
            try with_reducible rfl
          try simp only [Act.put, List.getElem_toArray, List.getElem_cons_succ, List.getElem_cons_zero, List.setIfInBounds_toArray, List.set_cons_zero, List.set_cons_succ]
          refine AnyBut.take (i := 3) (v := ?v28) rfl (by kernel_rfl) (by kernel_rfl) (by kernel_rfl) (by kernel_rfl) (fun _ _ _ h => h) (HSSe.out) (Or.inl ⟨by kernel_rfl, ?hy28⟩) ?r28
          case hy28 =>
            intro w hSw
            try dsimp only at hSw
            go_simp
            try with_reducible rfl
          try simp only [Act.put, List.getElem_toArray, List.getElem_cons_succ, List.getElem_cons_zero, List.setIfInBounds_toArray, List.set_cons_zero, List.set_cons_succ]
          refine AnyBut.take (i := 4) (v := ?v29) rfl (by kernel_rfl) (by kernel_rfl) (by kernel_rfl) (by kernel_rfl) (fun _ _ _ h => h) (HSSe.out) (Or.inl ⟨by kernel_rfl, ?hy29⟩) ?r29
          case hy29 =>
            intro w hSw
            try dsimp only at hSw
            go_simp
            try with_reducible rfl
          try simp only [Act.put, List.getElem_toArray, List.getElem_cons_succ, List.getElem_cons_zero, List.setIfInBounds_toArray, List.set_cons_zero, List.set_cons_succ]
          refine AnyBut.take (i := 5) (v := ?v30) rfl (by kernel_rfl) (by kernel_rfl) (by kernel_rfl) (by kernel_rfl) (fun _ _ _ h => h) (HSSe.out) (Or.inl ⟨by kernel_rfl, ?hy30⟩) ?r30
          case hy30 =>
            intro w hSw
            try dsimp only at hSw
            go_simp
            try with_reducible rfl
          try simp only [Act.put, List.getElem_toArray, List.getElem_cons_succ, List.getElem_cons_zero, List.setIfInBounds_toArray, List.set_cons_zero, List.set_cons_succ]
          refine AnyBut.last (by kernel_rfl) rfl (by kernel_rfl) (fun K hK => ?_)
          have f0 := HX8.out.g.f 0
          have f1 := HX8.out.g.f 1
          have f2 := HX8.out.g.f 2
          have f3 := HX8.out.g.f 3
          have f4 := HX8.out.g.f 4
          have f5 := HX8.out.g.f 5
          have f6 := HX8.out.g.f 6
          have f7 := HX8.out.g.f 7
          obtain ⟨y0, y1, y2, y3, y4, y5, y6, y7⟩ := HX8.out.g.c
          dsimp only [zeroH] at y0 y1 y2 y3 y4 y5
          go_simp
          refine hK.out _ _ ?_
          clear hK K
          try simp only [Act.put, List.getElem_toArray, List.getElem_cons_succ, List.getElem_cons_zero, List.setIfInBounds_toArray, List.set_cons_zero, List.set_cons_succ]
          try simp only [Exit.then]
          have HHB := (HX8.out.g.set HH (.slice ap PN cp) (.slice an NN cn) T 0).same ((Kept.refl (fun _ => False) _).drew) (fun x => x)
          go_wp2
          refine got10_end (R := (HH, T, 0)) (pv := .slice ap PN cp) (nv := .slice an NN cn) Tryd.results45 rfl rfl (by rw [HMK.out] at HHB ⊢; exact HHB) ?_
          rw [HR.out]
          have hk9 := (set8_kept w8 qg (.int .i64 HH.sc) (.int .u64 (HH.ze : Int)) (.int .i64 HH.po) (.slice ap PN cp) (.int .i64 HH.no) (.slice an NN cn) (.int .i64 (T : Int)) (.int .i64 0)).drew
          rw [HMK.out] at hk9
          exact ⟨_, _, rfl, HA8.out.kept hk9 (fun k e e2 => HBG.out.1 (by rw [e, e2])) (fun k e e2 => HBG.out.2 (by rw [e, e2])), HNC.out, HX8.out.k.new hk9 HX8.out.og⟩
        · have qR : ((ER : Int) != 0) = true := bneT (by omega)
          have HR := Lib.hid (HRES.out.trans (if_pos hER))
          clear hER
          have f0 := HX7.out.g.f 0
          have f1 := HX7.out.g.f 1
          have f2 := HX7.out.g.f 2
          have f3 := HX7.out.g.f 3
          have f4 := HX7.out.g.f 4
          have f5 := HX7.out.g.f 5
          have f6 := HX7.out.g.f 6
          have f7 := HX7.out.g.f 7
          obtain ⟨y0, y1, y2, y3, y4, y5, y6, y7⟩ := HX7.out.g.c
          dsimp only [zeroH] at y0 y1 y2 y3 y4 y5
          go_wp2
          try simp only [Exit.inBlock, Exit.then]
          refine got10_end (R := (zeroH, 0, ER)) (pv := .slice none 0 0) (nv := .slice none 0 0) Tryd.results45 rfl rfl (HX7.out.g.set zeroH (.slice none 0 0) (.slice none 0 0) 0 ER) ?_
          rw [HR.out]
          exact ⟨_, _, rfl, ⟨slAt_nil _, slAt_nil _⟩, newC_nil _, HX7.out.k.new (set8_kept _ _ _ _ _ _ _ _ _ _) HX7.out.og⟩
      · have qE : ((EE : Int) != 0) = true := bneT (by omega)
        have HR := Lib.hid (HD.out.trans (finD_bad (s := (vs, T, EE)) hE))
        clear hE
        have f0 := HX.out.g.f 0
        have f1 := HX.out.g.f 1
        have f2 := HX.out.g.f 2
        have f3 := HX.out.g.f 3
        have f4 := HX.out.g.f 4
        have f5 := HX.out.g.f 5
        have f6 := HX.out.g.f 6
        have f7 := HX.out.g.f 7
        obtain ⟨y0, y1, y2, y3, y4, y5, y6, y7⟩ := HX.out.g.c
        dsimp only [zeroH] at y0 y1 y2 y3 y4 y5
        go_wp2
        try simp only [Exit.inBlock, Exit.then]
        refine got10_end (R := (zeroH, 0, EE)) (pv := .slice none 0 0) (nv := .slice none 0 0) Tryd.results45 rfl rfl (HX.out.g.set zeroH (.slice none 0 0) (.slice none 0 0) 0 EE) ?_
        rw [HR.out]
        exact ⟨_, _, rfl, ⟨slAt_nil _, slAt_nil _⟩, newC_nil _, HX.out.k.new (set8_kept _ _ _ _ _ _ _ _ _ _) HX.out.og⟩
end Go.Proofs.YtjpnfadmblmjbaaDoor
