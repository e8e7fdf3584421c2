/- Texts put together: Z26, KF, R1, R2. -/
import Derived.Test.YtjpnfadmblmjbaaDoorZz14
import Derived.Test.YtjpnfadmblmjbaaDoorZz7
import Derived.Test.YtjpnfadmblmjbaaDoorZz2
import Derived.Test.YtjpnfadmblmjbaaDoorZz1
import Derived.Lib.SmallJoins
import Derived.Deep.Slices
import Derived.Deep.Fields
import Derived.ChangeSame
/- Layer 10: the walk of 'HistbitsRows' (written by tools/gen_XZ26.py). -/
namespace Go.Proofs.YtjpnfadmblmjbaaDoor
open Go.RowKit
attribute [local go_sem ↓] Go.wp_at_zero Go.wp_at_succ

set_option maxHeartbeats 16000000 in
set_option maxRecDepth 100000 in
theorem rows10_walk0 (rao : Option Addr) (rc : Nat) (L : List HP) (xh : HistV) (pv0 nv0 : Value) (W : World) (hL : HsAt W rao L) (hin : ∀ p ∈ L, HistAt W p.h p.pv p.nv ∧ p.h.ok) (ho : HistAt W xh pv0 nv0) (hok0 : xh.ok) (hl : L.length ≤ 9223372036854775807) (HT : ClassTab W) (hB0 : 0 < W.heap.size) :
    Calls Tryd.prog 7 #[.slice rao L.length rc, histV xh pv0 nv0] W fun e w' => e = .returned (.bool true) ∧ Kept (fun _ => False) W w' := by
  obtain ⟨⟨xa, xc, rfl⟩, xb, xd, rfl⟩ := ho.sl
  obtain ⟨SO, hSO⟩ : ∃ b, b = someH L := ⟨_, rfl⟩
  have hso : SO = true → L.length ≤ 30 ∧ ∀ p ∈ L, p.h.pl.length ≤ 170 ∧ p.h.nl.length ≤ 170 := fun e => someH_true (hSO.symm.trans e)
  have HSM := Lib.hid fun w' (k : HsAt w' rao L) => some10_any rao rc L w' k hl
  rw [← hSO] at HSM
  have HLI := Lib.hid fun w' (k : HistAt w' xh (.slice xa xh.pl.length xc) (.slice xb xh.nl.length xd)) => refLight_any xh _ _ w' k
  obtain ⟨LI, hLI⟩ : ∃ b, b = decide (xh.pl.length ≤ 300 ∧ xh.nl.length ≤ 300) := ⟨_, rfl⟩
  rw [← hLI] at HLI
  have hli : LI = true → xh.pl.length ≤ 300 ∧ xh.nl.length ≤ 300 := fun e => of_decide_eq_true (hLI.symm.trans e)
  obtain ⟨Fp, hFp⟩ : ∃ F, F = L.filter okP := ⟨_, rfl⟩
  have hFm : ∀ p ∈ Fp, p ∈ L ∧ p.h.err = 0 := fun p hp => by rw [hFp] at hp; obtain ⟨h1, h2⟩ := List.mem_filter.1 hp; exact ⟨h1, (okP_iff p).1 h2⟩
  have hFl : Fp.length ≤ L.length := by rw [hFp]; exact List.length_filter_le _ _
  obtain ⟨F, hF⟩ : ∃ f, f = Fp.map HP.h := ⟨_, rfl⟩
  have hFF : F.length = Fp.length := by rw [hF, List.length_map]
  have hpl : SO = true → ∀ n, n ≤ Fp.length → (putAll F n).length ≤ 1000000 := fun e n h => by
    have := putAll_le F (fun h hh => by rw [hF] at hh; obtain ⟨p, hp, rfl⟩ := List.mem_map.1 hh; exact (hso e).2 p (hFm p hp).1) n (by omega)
    have := (hso e).1
    omega
  have hlv : ∀ n, n ≤ Fp.length → (lastV F n).pl.length ≤ 160 ∧ (lastV F n).nl.length ≤ 160 := fun n h => by rw [hF]; exact lastV_lens (fun p hp => (hFm p hp).2) n h
  -- a put of the i-th histogram, and one of the other one into a row that goes another way
  have HPX := Lib.hid fun W2 w' p r v gp gn n P (K2 : Kept (fun _ => False) W W2) (hs : SO = true) (hP : P ∈ L) (hn : n ≤ Fp.length) (X : HB W2 w' p r v (putAll F n) n (lastV F n) gp gn) =>
    hput_any W2 w' p r n v gp gn P.pv P.nv (putAll F n) (lastV F n) P.h X ((hin P hP).1.on (K2.trans X.mp.kept)) (Apart.older (hin P hP).1 (fun j hj => Nat.le_trans K2.size (X.base j hj))) (hin P hP).2 (by have := K2.size; omega)
      (by have := (hso hs).1; omega) (by have := hpl hs n hn; omega) (by have := ((hso hs).2 P hP).1; omega) (by have := ((hso hs).2 P hP).2; omega) (hlv n hn).1 (hlv n hn).2 (HT.kept K2)
  have HPO := Lib.hid fun W2 w' p r gp gn n (K2 : Kept (fun _ => False) W W2) (hs : SO = true) (hi : LI = true) (hn : n ≤ Fp.length) (X : HB W2 w' p r (.slice none 0 0) [] n (lastV F n) gp gn) =>
    hput_any W2 w' p r n (.slice none 0 0) gp gn _ _ [] (lastV F n) xh X (ho.on (K2.trans X.mp.kept)) (Apart.older ho (fun j hj => Nat.le_trans K2.size (X.base j hj))) hok0 (by have := K2.size; omega)
      (by have := (hso hs).1; omega) (by simp) (by have := (hli hi).1; omega) (by have := (hli hi).2; omega) (hlv n hn).1 (hlv n hn).2 (HT.kept K2)
  have HCH := Lib.hid fun w' P (hs : SO = true) (hP : P ∈ L) (k : Kept (fun _ => False) W w') => refCheck_any P.h P.pv P.nv w' ((hin P hP).1.on k) (hin P hP).2 (by have := ((hso hs).2 P hP).1; omega) (by have := ((hso hs).2 P hP).2; omega)
  have HRP := Lib.hid fun w' (a : Option Addr) (c n : Nat) P (hs : SO = true) (hP : P ∈ L) (hn : n ≤ Fp.length) (he : P.h.err = 0) (k : Kept (fun _ => False) W w') (hr : HsAt w' a (Fp.take n)) =>
    (show Calls Tryd.prog 41 #[.slice a n c, histV P.h P.pv P.nv] w' (BitsTo w' (nextH n (lastV F n) P.h)) from by
      have h := refPut10_any a c (Fp.take n) P.h P.pv P.nv w' hr (fun p hp => ⟨(hin p (hFm p (List.mem_of_mem_take hp)).1).1.on k, by have := ((hso hs).2 p (hFm p (List.mem_of_mem_take hp)).1).1; omega, by have := ((hso hs).2 p (hFm p (List.mem_of_mem_take hp)).1).2; omega⟩) (by rw [List.length_take]; have := (hso hs).1; omega) ((hin P hP).1.on k) (hin P hP).2 he
      rw [lastH_take Fp n hn, ← hF, List.length_take, Nat.min_eq_left hn] at h
      exact h)
  have HLV := Lib.hid hlv
  have HPL := Lib.hid hpl
  have HSO := Lib.hid hso
  have HLL := Lib.hid (And.intro hFl hFF)
  have HSTEP := Lib.hid fun i (hi : i < L.length) => (show okP L[i] = true → ((L.take i).filter okP).length < Fp.length ∧ F.getD ((L.take i).filter okP).length zeroH = L[i].h ∧ ((L.take (i + 1)).filter okP).length = ((L.take i).filter okP).length + 1 ∧ Fp.take (((L.take i).filter okP).length + 1) = Fp.take ((L.take i).filter okP).length ++ [L[i]] from fun hb => by
    have h1 := filter_get hi hb
    have h2 := filter_step (L := L) hi
    rw [if_pos hb] at h2
    rw [← hFp] at h1
    have h3 : ((L.take i).filter okP).length < Fp.length := (List.getElem?_eq_some_iff.1 h1).1
    refine ⟨h3, ?_, by rw [h2, List.length_append]; rfl, ?_⟩
    · rw [hF, List.getD_eq_getElem?_getD, List.getElem?_map, h1]; rfl
    · rw [List.take_add_one, h1]; rfl)
  have HSKIP := Lib.hid fun i (hi : i < L.length) => (show ¬ okP L[i] = true → ((L.take (i + 1)).filter okP).length = ((L.take i).filter okP).length from fun hb => by
    have h2 := filter_step (L := L) hi
    rw [if_neg hb] at h2
    rw [h2])
  have HFLE := Lib.hid fun i => (show ((L.take i).filter okP).length ≤ Fp.length from by
    rw [filter_take i, ← hFp, List.length_take]; exact Nat.min_le_right _ _)
  have HFEQ := Lib.hid (show ((L.take L.length).filter okP).length = Fp.length by rw [List.take_length, ← hFp])
  have HLA := Lib.hid hL
  have HFI := Lib.hid fun i (hi : i < Fp.length) => (show ∃ P, Fp[i]? = some P ∧ F.getD i zeroH = P.h ∧ P.h.err = 0 ∧ P.h.ok ∧ (HistAt W P.h P.pv P.nv) ∧ P.h.pl.length ≤ 160 ∧ P.h.nl.length ≤ 160 from by
    have hm := hFm Fp[i] (List.getElem_mem _)
    exact ⟨Fp[i], List.getElem?_eq_getElem hi, by rw [hF, List.getD_eq_getElem?_getD, List.getElem?_map, List.getElem?_eq_getElem hi]; rfl, hm.2, (hin _ hm.1).2, (hin _ hm.1).1, err_lens hm.2⟩)
  have HLO := Lib.hid fun i (hi : i ≤ Fp.length) => lastV_ok (F := F) (fun h hh => by rw [hF] at hh; obtain ⟨p, hp, rfl⟩ := List.mem_map.1 hh; exact (hin p (hFm p hp).1).2) i (by omega)
  have HTT := Lib.hid fun w' (k : Kept (fun _ => False) W w') => HT.kept k
  obtain ⟨xsc, xze, xpo, xpl, xno, xnl⟩ := xh
  unfold histV at HLI HPO ⊢
  dsimp only at HLI HPO ho ⊢
  obtain ⟨w0, hw0⟩ : ∃ w0, w0 = W.alloc (.cells #[.int .i64 xsc, .int .u64 (xze : Int), .int .i64 xpo, .slice xa xpl.length xc, .int .i64 xno, .slice xb xnl.length xd] 62) := ⟨_, rfl⟩
  have HQ0 := Lib.hid (show HistBox w0 W.heap.size ⟨xsc, xze, xpo, xpl, xno, xnl⟩ (.slice xa xpl.length xc) (.slice xb xnl.length xd) by rw [hw0]; exact heap_alloc_new W _)
  have HK0 := Lib.hid (show Kept (fun _ => False) W w0 by rw [hw0]; exact (Kept.refl _ _).alloc _)
  have HAW := Lib.hid (awake10_any w0 (HT.kept HK0.out) (by have := HK0.out.size; omega))
  have HOA := Lib.hid ho
  obtain ⟨q0, hq⟩ : ∃ q, q = W.heap.size := ⟨_, rfl⟩
  rw [← hq] at HQ0
  have HQ := Lib.hid hq
  have HW0 := Lib.hid hw0
  obtain ⟨ln, hln⟩ : ∃ n, n = L.length := ⟨_, rfl⟩
  rw [← hln] at HSM ⊢
  have HLN := Lib.hid hln
  clear hL hin ho hok0 hl HT hB0 hSO hLI hli hFp hFm hFl hF hFF hpl hlv hw0 hq hln hso
  have hcase : SO = false ∨ SO = true := by cases SO <;> simp
  rcases hcase with rfl | rfl
  · go_enter Tryd.func7, Tryd.ntmps7
    go_upto_region 1 with fail
    rw [← HW0.out, ← HQ.out]
    go_wp2_with fail
    refine HAW.out.mono ?_
    rintro e w1 ⟨rfl, k1⟩
    have HK1 := Lib.hid (HK0.out.trans k1)
    have HQ1 := Lib.hid (HQ0.out.same k1 (fun x => x))
    clear k1
    go_wp2_with fail
    refine (HSM.out w1 (HLA.out.kept HK1.out)).mono ?_
    rintro e w' ⟨rfl, rfl⟩
    go_wp2
    go_ret
    exact ⟨rfl, HK1.out⟩
  have hcase : LI = false ∨ LI = true := by cases LI <;> simp
  rcases hcase with rfl | rfl
  · go_enter Tryd.func7, Tryd.ntmps7
    go_upto_region 1 with fail
    rw [← HW0.out, ← HQ.out]
    go_wp2_with fail
    refine HAW.out.mono ?_
    rintro e w1 ⟨rfl, k1⟩
    have HK1 := Lib.hid (HK0.out.trans k1)
    have HQ1 := Lib.hid (HQ0.out.same k1 (fun x => x))
    clear k1
    go_wp2_with fail
    refine (HSM.out w1 (HLA.out.kept HK1.out)).mono ?_
    rintro e w' ⟨rfl, rfl⟩
    obtain ⟨x0, x1, x2, x3, x4, x5⟩ := HistBox.c (h := ⟨xsc, xze, xpo, xpl, xno, xnl⟩) HQ1.out
    dsimp only at x0 x1 x2 x3 x4 x5
    go_wp2_with fail
    refine (HLI.out w1 (HOA.out.on HK1.out)).mono ?_
    rintro e w2 ⟨rfl, k2⟩
    have HK2 := Lib.hid (HK1.out.trans k2)
    have HQ2 := Lib.hid (HQ1.out.same k2 (fun x => x))
    clear k2 x0 x1 x2 x3 x4 x5
    go_wp2
    go_ret
    exact ⟨rfl, HK2.out⟩
  · go_enter Tryd.func7, Tryd.ntmps7
    go_upto_region 1 with fail
    rw [← HW0.out, ← HQ.out]
    go_wp2_with fail
    refine HAW.out.mono ?_
    rintro e w1 ⟨rfl, k1⟩
    have HK1 := Lib.hid (HK0.out.trans k1)
    have HQ1 := Lib.hid (HQ0.out.same k1 (fun x => x))
    clear k1
    go_wp2_with fail
    refine (HSM.out w1 (HLA.out.kept HK1.out)).mono ?_
    rintro e w' ⟨rfl, rfl⟩
    obtain ⟨x0, x1, x2, x3, x4, x5⟩ := HistBox.c (h := ⟨xsc, xze, xpo, xpl, xno, xnl⟩) HQ1.out
    dsimp only at x0 x1 x2 x3 x4 x5
    go_wp2_with fail
    refine (HLI.out w1 (HOA.out.on HK1.out)).mono ?_
    rintro e w2 ⟨rfl, k2⟩
    have HK2 := Lib.hid (HK1.out.trans k2)
    have HQ2 := Lib.hid (HQ1.out.same k2 (fun x => x))
    clear k2 x0 x1 x2 x3 x4 x5
    go_wp2_with fail
    refine (bnew_any w2).mono ?_
    rintro e w3 ⟨rfl, hw3⟩
    have H0 := bnew_at w2.heap.size w2 (Nat.le_refl _)
    rw [← hw3] at H0
    have k3 : Kept (fun _ => False) w2 w3 := by rw [hw3]; exact (Kept.refl _ _).alloc _
    clear hw3
    go_wp2_with fail
    refine (hnewRow_any w3).mono ?_
    rintro e w4 ⟨rfl, hr, k4⟩
    have hx4 : HB w2 w4 w2.heap.size w3.heap.size (.slice none 0 0) (putAll F 0) 0 (lastV F 0) (.slice none 0 0) (.slice none 0 0) := ⟨H0.keptF k4, hr, Mine.nil' _ (k3.trans k4), Mine.nil' _ (k3.trans k4), k3.size⟩
    obtain ⟨r, hr1⟩ : ∃ r, r = w3.heap.size := ⟨_, rfl⟩
    obtain ⟨p, hp1⟩ : ∃ p, p = w2.heap.size := ⟨_, rfl⟩
    rw [← hr1] at hx4 ⊢
    have hx5 : HB w2 w4 p r (.slice none 0 0) (putAll F 0) 0 (lastV F 0) (.slice none 0 0) (.slice none 0 0) := by rw [hp1]; exact hx4
    rw [← hp1]
    have HX4 := Lib.hid hx5
    clear hr k3 k4 H0 hr1 hp1 hx4 hx5
    go_wp2
    go_loopg [7, 8, 9] ln (fun g s7 s8 s9 wr => ∃ i n : Nat, i ≤ ln ∧ g = ln - i ∧ s9 = .int .i64 i ∧ n = ((L.take i).filter okP).length ∧ (∃ v gp gn, HB w2 wr p r v (putAll F n) n (lastV F n) gp gn) ∧ Mine w2 wr 3 s7 (ints (putAll F n)) ∧ MineH w2 wr s8 (Fp.take n))
    case atStart => exact ⟨0, 0, Nat.zero_le _, rfl, rfl, rfl, ⟨_, _, _, HX4.out⟩, Mine.nil' _ HX4.out.mp.kept, by rw [List.take_zero]; exact MineH.nil' HX4.out.mp.kept⟩
    case round =>
      obtain ⟨i, n, hil, rfl, rfl, hn, ⟨v, gp, gn, hx⟩, hb, hr⟩ := hrel
      have hnl : n ≤ Fp.length := by rw [hn]; exact HFLE.out i
      have HX := Lib.hid hx
      have HNL := Lib.hid hnl
      obtain ⟨ab, cb, eb⟩ := hb.slice
      obtain ⟨nb, hnb⟩ : ∃ k, k = (ints (putAll F n)).length := ⟨_, rfl⟩
      rw [← hnb] at eb
      subst eb
      obtain ⟨ar, cr, er⟩ := hr.slice
      rw [List.length_take, Nat.min_eq_left hnl] at er
      subst er
      have HBI := Lib.hid hb
      have HRO := Lib.hid hr
      have HNB := Lib.hid hnb
      clear hx hb hr hnb
      by_cases hd : i < ln
      · have hdi : (i : Int) < (ln : Int) := by omega
        have hi0 : (0 : Int) ≤ (i : Int) := by omega
        have HD := Lib.hid hd
        have wi : IntKind.i64.wrap ((i : Int) + 1) = ((i + 1 : Nat) : Int) := by rw [IntWalk.i64_in _ ⟨by omega, by have := (HSO.out (by trivial)).1; have := HLN.out; omega⟩]; omega
        have hiL : i < L.length := by have := HLN.out; omega
        obtain ⟨gb, ob, rfl, hrec⟩ := HLA.out (by omega)
        have hel := hrec i L[i] (List.getElem?_eq_getElem hiL)
        have hst := HSTEP.out i hiL
        have hsk := HSKIP.out i hiL
        have hPm : L[i] ∈ L := List.getElem_mem _
        obtain ⟨P, hP⟩ : ∃ p, p = L[i] := ⟨_, rfl⟩
        rw [← hP, ← hn] at hst
        rw [← hP, ← hn] at hsk
        rw [← hP] at hel hPm
        have HEL := Lib.hid hel
        have HPXi := Lib.hid fun w' v gp gn (X : HB w2 w' p r v (putAll F n) n (lastV F n) gp gn) => HPX.out w2 w' p r v gp gn n P HK2.out (by trivial) hPm HNL.out X
        have HCHi := Lib.hid fun w' (k : Kept (fun _ => False) W w') => HCH.out w' P (by trivial) hPm k
        have HRPi := Lib.hid fun w' (a : Option Addr) (c : Nat) (he : P.h.err = 0) (k : Kept (fun _ => False) W w') (hr : HsAt w' a (Fp.take n)) => HRP.out w' a c n P (by trivial) hPm HNL.out he k hr
        have hlvn := HLV.out n HNL.out
        by_cases he : P.h.err = 0
        · obtain ⟨⟨gsc, gze, gpo, gpl, gno, gnl⟩, a1, c1, a2, c2⟩ := P
          unfold histV HP.pv HP.nv at HPXi HCHi HRPi
          dsimp only at HPXi HCHi HRPi he HEL
          obtain ⟨E, hEE⟩ : ∃ e, e = HistV.err ⟨gsc, gze, gpo, gpl, gno, gnl⟩ := ⟨_, rfl⟩
          rw [← hEE] at he HPXi HCHi
          have HEE := Lib.hid hEE
          clear hEE
          obtain ⟨hst1, hst2, hst3, hst4⟩ := hst ((okP_iff _).2 (by rw [HEE.out] at he; exact he))
          have HE0 := Lib.hid (show HistV.err ⟨gsc, gze, gpo, gpl, gno, gnl⟩ = 0 by rw [← HEE.out]; exact he)
          have HG2 : Hid (putAll F (n + 1) = putAll F n ++ nextH n (lastV F n) ⟨gsc, gze, gpo, gpl, gno, gnl⟩ ∧ lastV F (n + 1) = ⟨gsc, gze, gpo, gpl, gno, gnl⟩) := Lib.hid ⟨by show putAll F n ++ nextH n (lastV F n) (F.getD n zeroH) = _; rw [hst2], by rw [lastV_succ, hst2]⟩
          have HLEN := Lib.hid (show n + 1 = ((L.take (i + 1)).filter okP).length by rw [hst3])
          have HTK := Lib.hid hst4
          have HN1 := Lib.hid (show n + 1 ≤ Fp.length from hst1)
          subst he
          have hl1 := hlvn.1
          have hl2 := hlvn.2
          clear hd hil hel hst hsk hPm hP hlvn hn hnl hiL hrec hst1 hst2 hst3 hst4
          go_wp2_with fail
          refine (hrowClone_any r n gp gn (lastV F n) wr HX.out.row ⟨HX.out.mp.at_, HX.out.mn.at_⟩ (by omega) (by omega)).mono ?_
          rintro e wa ⟨q, pvq, nvq, rfl, hrq, m1, m2, hq⟩
          have HCQ := Lib.hid (And.intro hrq (And.intro m1 (And.intro m2 hq)))
          have HKA := Lib.hid m1.kept
          clear hrq m1 m2 hq
          go_upto_region 13 with fail
          have HSSa : Hid ((fun w' => w'.cell? ⟨q0, 0, none⟩ = some (.int .i64 xsc) ∧ w'.cell? ⟨q0, 1, none⟩ = some (.int .u64 (xze : Int)) ∧ w'.cell? ⟨q0, 2, none⟩ = some (.int .i64 xpo) ∧ w'.cell? ⟨q0, 3, none⟩ = some (.slice xa xpl.length xc) ∧ w'.cell? ⟨q0, 4, none⟩ = some (.int .i64 xno) ∧ w'.cell? ⟨q0, 5, none⟩ = some (.slice xb xnl.length xd)) wa.drew) := by
            obtain ⟨x0, x1, x2, x3, x4, x5⟩ := HistBox.c (h := ⟨xsc, xze, xpo, xpl, xno, xnl⟩) (HistBox.same HQ2.out (HX.out.mp.kept.trans (HKA.out.trans (Kept.refl (fun _ => False) wa).drew)) (fun x => x))
            exact Lib.hid ⟨x0, x1, x2, x3, x4, x5⟩
          refine AnyBut.start (S := fun w' => w'.cell? ⟨q0, 0, none⟩ = some (.int .i64 xsc) ∧ w'.cell? ⟨q0, 1, none⟩ = some (.int .u64 (xze : Int)) ∧ w'.cell? ⟨q0, 2, none⟩ = some (.int .i64 xpo) ∧ w'.cell? ⟨q0, 3, none⟩ = some (.slice xa xpl.length xc) ∧ w'.cell? ⟨q0, 4, none⟩ = some (.int .i64 xno) ∧ w'.cell? ⟨q0, 5, none⟩ = some (.slice xb xnl.length xd)) (k := 3) (by kernel_rfl) ?_
          refine AnyBut.take (i := 0) (v := ?v3) rfl (by kernel_rfl) (by kernel_rfl) (by kernel_rfl) (by kernel_rfl) (fun _ _ _ h => h) (HSSa.out) (Or.inl ⟨by kernel_rfl, ?hy3⟩) ?r3
          case hy3 =>
            intro w hSw
            try dsimp only at hSw
            go_simp
            try with_reducible rfl
          try simp only [Act.put, List.getElem_toArray, List.getElem_cons_zero, List.setIfInBounds_toArray, List.set_cons_zero, List.set_cons_succ]
          refine AnyBut.take (i := 2) (v := ?v4) rfl (by kernel_rfl) (by kernel_rfl) (by kernel_rfl) (by kernel_rfl) (fun _ _ _ h => h) (HSSa.out) (Or.inl ⟨by kernel_rfl, ?hy4⟩) ?r4
          case hy4 =>
            intro w hSw
            try dsimp only at hSw
            go_simp
            try with_reducible rfl
          try simp only [Act.put, List.getElem_toArray, List.getElem_cons_succ, List.getElem_cons_zero, List.setIfInBounds_toArray, List.set_cons_zero, List.set_cons_succ]
          refine AnyBut.one (i := 1) (by kernel_rfl) rfl (fun K hK => ?_)
          go_simp
          go_wp2_with fail
          refine (bnew_any _).mono ?_
          rintro e wb ⟨rfl, hwb⟩
          have hb0 := bnew_at wr.heap.size wa.drew (by have := HKA.out.size; simpa using this)
          rw [← hwb] at hb0
          have kb : Kept (fun _ => False) wa wb := by rw [hwb]; exact (Kept.refl (fun _ => False) wa).drew.alloc _
          have HXB : Hid (HB wr wb wa.heap.size q (.slice none 0 0) [] n (lastV F n) pvq nvq) := Lib.hid ⟨by simpa using hb0, HCQ.out.1.same kb (fun x => x), HCQ.out.2.1.on kb, HCQ.out.2.2.1.on kb, HCQ.out.2.2.2⟩
          have HKB := Lib.hid kb
          clear hwb hb0 kb
          have HSSb : Hid ((fun w' => w'.cell? ⟨q0, 0, none⟩ = some (.int .i64 xsc) ∧ w'.cell? ⟨q0, 1, none⟩ = some (.int .u64 (xze : Int)) ∧ w'.cell? ⟨q0, 2, none⟩ = some (.int .i64 xpo) ∧ w'.cell? ⟨q0, 3, none⟩ = some (.slice xa xpl.length xc) ∧ w'.cell? ⟨q0, 4, none⟩ = some (.int .i64 xno) ∧ w'.cell? ⟨q0, 5, none⟩ = some (.slice xb xnl.length xd)) wb) := by
            obtain ⟨x0, x1, x2, x3, x4, x5⟩ := HistBox.c (h := ⟨xsc, xze, xpo, xpl, xno, xnl⟩) (HistBox.same HQ2.out (HX.out.mp.kept.trans (HKA.out.trans HKB.out)) (fun x => x))
            exact Lib.hid ⟨x0, x1, x2, x3, x4, x5⟩
          go_wp2
          refine hK.out _ _ (HSSb.out) ?_
          clear hK K
          try simp only [Act.put, List.getElem_toArray, List.getElem_cons_succ, List.getElem_cons_zero, List.setIfInBounds_toArray, List.set_cons_zero, List.set_cons_succ]
          refine AnyBut.last (by kernel_rfl) rfl (by kernel_rfl) (fun K hK => ?_)
          go_simp
          go_wp2_with fail
          refine (HPO.out wr wb _ q pvq nvq n (HK2.out.trans HX.out.mp.kept) (by trivial) (by trivial) HNL.out HXB.out).mono ?_
          rintro e wc ⟨rfl, hq2⟩
          have HKC : Hid (Kept (fun _ => False) wr wc) := Lib.hid (by rcases hq2 with ⟨_, h⟩ | ⟨_, v', p', n', h, _, _⟩; exact HXB.out.mp.kept.trans h; exact h.mp.kept)
          clear hq2
          go_wp2
          refine hK.out _ _ ?_
          clear hK K
          try simp only [Act.put, List.getElem_toArray, List.getElem_cons_succ, List.getElem_cons_zero, List.setIfInBounds_toArray, List.set_cons_zero, List.set_cons_succ]
          have HXc := Lib.hid (HX.out.on HKC.out)
          have HBc := Lib.hid (HBI.out.on HKC.out)
          have HRc := Lib.hid (HRO.out.on HKC.out)
          obtain ⟨z0, z1, z2, z3, z4, z5⟩ := HElt.keptS HEL.out (HK2.out.trans HXc.out.mp.kept) (fun x => x)
          dsimp only at z0 z1 z2 z3 z4 z5
          go_wp2_with fail
          refine (HPXi.out wc _ _ _ HXc.out).mono ?_
          rintro e wd ⟨rfl, hq3⟩
          clear z0 z1 z2 z3 z4 z5
          obtain ⟨v2, p2, n2, hx2, _, hkd⟩ : PutTo w2 wc wd p r v (putAll F n ++ nextH n (lastV F n) ⟨gsc, gze, gpo, gpl, gno, gnl⟩) (n + 1) ⟨gsc, gze, gpo, gpl, gno, gnl⟩ := by rcases hq3 with ⟨h, _⟩ | ⟨_, h⟩; exact absurd rfl h; exact h
          rw [← HG2.out.1] at hx2
          rw [← HG2.out.2] at hx2
          have HXd := Lib.hid hx2
          have HBd := Lib.hid (HBc.out.blk hkd (HXc.out.blkPut (by decide) (by decide) (by decide)))
          have HRd := Lib.hid (HRc.out.blk hkd (HXc.out.blkPut (by decide) (by decide) (by decide)))
          clear hq3 hkd hx2
          obtain ⟨z0, z1, z2, z3, z4, z5⟩ := HElt.keptS HEL.out (HK2.out.trans HXd.out.mp.kept) (fun x => x)
          dsimp only at z0 z1 z2 z3 z4 z5
          go_wp2_with fail
          refine (HCHi.out wd (HK2.out.trans HXd.out.mp.kept)).mono ?_
          rintro e we ⟨rfl, ke⟩
          clear z0 z1 z2 z3 z4 z5
          have HXe := Lib.hid (HXd.out.on ke)
          have HBe := Lib.hid (HBd.out.on ke)
          have HRe := Lib.hid (HRd.out.on ke)
          clear ke
          obtain ⟨z0, z1, z2, z3, z4, z5⟩ := HElt.keptS HEL.out (HK2.out.trans HXe.out.mp.kept) (fun x => x)
          dsimp only at z0 z1 z2 z3 z4 z5
          go_wp2_with fail
          refine (HRPi.out we ar cr HE0.out (HK2.out.trans HXe.out.mp.kept) HRe.out.at_).mono ?_
          rintro e wf ⟨af, cf, rfl, mf⟩
          have HXf := Lib.hid (HXe.out.on mf.kept)
          have HBf := Lib.hid (HBe.out.on mf.kept)
          have HRf := Lib.hid (HRe.out.on mf.kept)
          have HSf := Lib.hid mf.srcB
          clear mf z0 z1 z2 z3 z4 z5
          have HLN2 := Lib.hid (show (ints (putAll F n)).length + (ints (nextH n (lastV F n) ⟨gsc, gze, gpo, gpl, gno, gnl⟩)).length ≤ 1000000000000 by have h1 := HPL.out (by trivial) (n + 1) HN1.out; rw [HG2.out.1, List.length_append] at h1; rw [ints_length, ints_length]; omega)
          go_upto_region 19 with (at_builtin; refine wpList_mineI2 rfl (.tmp 58) (.tmp 64) rfl w2 _ _ rfl HBf.out _ (ints (nextH n (lastV F n) ⟨gsc, gze, gpo, gpl, gno, gnl⟩)) rfl HSf.out HLN2.out ?_; intro vg wg hmg hkg _; rw [← ints_append, ← HG2.out.1] at hmg; obtain ⟨ag, cg, eg⟩ := hmg.slice; obtain ⟨ng, hng⟩ : ∃ k, k = (ints (putAll F (n + 1))).length := ⟨_, rfl⟩; rw [← hng] at eg; subst eg; have HNG := Lib.hid hng; have HBg := Lib.hid hmg; have HXg := Lib.hid (HXf.out.blk hkg (Blk.of HBf.out.own (by decide)) (Blk.of HBf.out.own (by decide)) (Blk.of HBf.out.own (by decide)) (Blk.of HBf.out.own (by decide))); have HRg := Lib.hid (HRf.out.blk hkg (Blk.of HBf.out.own (by decide))); clear hmg hkg hng)
          obtain ⟨z0, z1, z2, z3, z4, z5⟩ := HElt.keptS HEL.out (HK2.out.trans HXg.out.mp.kept) (fun x => x)
          dsimp only at z0 z1 z2 z3 z4 z5
          have HXg1 := Lib.hid (HXg.out.on ((Kept.refl _ _).alloc (.cells (cellsH ⟨⟨gsc, gze, gpo, gpl, gno, gnl⟩, a1, c1, a2, c2⟩).toArray 62)))
          have HBg1 := Lib.hid (HBg.out.on ((Kept.refl _ _).alloc (.cells (cellsH ⟨⟨gsc, gze, gpo, gpl, gno, gnl⟩, a1, c1, a2, c2⟩).toArray 62)))
          have HRg1 := Lib.hid (HRg.out.on ((Kept.refl _ _).alloc (.cells (cellsH ⟨⟨gsc, gze, gpo, gpl, gno, gnl⟩, a1, c1, a2, c2⟩).toArray 62)))
          have HSg := Lib.hid (src_oneH wg ⟨⟨gsc, gze, gpo, gpl, gno, gnl⟩, a1, c1, a2, c2⟩)
          unfold cellsH at HXg1 HBg1 HRg1 HSg
          dsimp only at HXg1 HBg1 HRg1 HSg
          have HLT := Lib.hid (show (Fp.take n).length + 1 ≤ 1000000000 by rw [List.length_take]; have := (HSO.out (by trivial)).1; have := HLL.out.1; omega)
          have hlenb := fun w' v g1 g2 (x : HB w2 w' p r v (putAll F (n + 1)) (n + 1) (lastV F (n + 1)) g1 g2) => bwlen_any _ _ _ _ _ x.bw
          rw [show (putAll F (n + 1)).length = ng by have := HNG.out; rw [ints_length] at this; exact this.symm] at hlenb
          have HWL := Lib.hid hlenb
          clear hlenb
          go_upto_region 20 with (at_builtin; refine wpList_mineH rfl (.tmp 66) (.tmp 71) rfl w2 _ _ rfl HRg1.out _ ⟨⟨gsc, gze, gpo, gpl, gno, gnl⟩, a1, c1, a2, c2⟩ rfl HSg.out HLT.out ?_; intro vh wh hmh hkh; rw [← HTK.out] at hmh; obtain ⟨ah, ch, eh⟩ := hmh.slice; rw [List.length_take, Nat.min_eq_left HN1.out] at eh; subst eh; have HRh := Lib.hid hmh; have HXh := Lib.hid (HXg1.out.blk hkh (Blk.of HRg1.out.own (by decide)) (Blk.of HRg1.out.own (by decide)) (Blk.of HRg1.out.own (by decide)) (Blk.of HRg1.out.own (by decide))); have HBh := Lib.hid (HBg1.out.blk hkh (Blk.of HRg1.out.own (by decide))); clear hmh hkh z0 z1 z2 z3 z4 z5)
          have HRL := Lib.hid (hlen_any _ _ _ _ _ _ HXh.out.row)
          have e2 : ((ng : Int) != (ng : Int)) = false := bneF rfl
          have e3 : (((n + 1 : Nat) : Int) != ((n + 1 : Nat) : Int)) = false := bneF rfl
          go_wp2_with fail
          refine (HWL.out _ _ _ _ HXh.out).mono ?_
          rintro e w' ⟨rfl, rfl⟩
          go_wp2_with fail
          refine HRL.out.mono ?_
          rintro e w' ⟨rfl, rfl⟩
          go_wp2
          go_roundg (ln - (i + 1))
          case measure => have := HD.out; omega
          case rel => exact ⟨i + 1, n + 1, HD.out, rfl, rfl, HLEN.out, ⟨_, _, _, HXh.out⟩, HBh.out, HRh.out⟩
        · obtain ⟨⟨gsc, gze, gpo, gpl, gno, gnl⟩, a1, c1, a2, c2⟩ := P
          unfold histV HP.pv HP.nv at HPXi HCHi HRPi
          dsimp only at HPXi HCHi HRPi he HEL
          obtain ⟨E, hEE⟩ : ∃ e, e = HistV.err ⟨gsc, gze, gpo, gpl, gno, gnl⟩ := ⟨_, rfl⟩
          rw [← hEE] at he HPXi HCHi
          have HEE := Lib.hid hEE
          clear hEE
          have HNE := Lib.hid he
          have hlen := hsk (by intro h; exact he (by rw [HEE.out]; exact (okP_iff _).1 h))
          have HLEN := Lib.hid (show n = ((L.take (i + 1)).filter okP).length by rw [hlen])
          have e0 : ((E : Int) == 0) = false := beqF (by omega)
          have e1 : ((E : Int) != (E : Int)) = false := bneF rfl
          have hl1 := hlvn.1
          have hl2 := hlvn.2
          clear hd hil hel hst hsk hPm hP hlvn hn hnl hiL hrec he hlen
          go_wp2_with fail
          refine (hrowClone_any r n gp gn (lastV F n) wr HX.out.row ⟨HX.out.mp.at_, HX.out.mn.at_⟩ (by omega) (by omega)).mono ?_
          rintro e wa ⟨q, pvq, nvq, rfl, hrq, m1, m2, hq⟩
          have HCQ := Lib.hid (And.intro hrq (And.intro m1 (And.intro m2 hq)))
          have HKA := Lib.hid m1.kept
          clear hrq m1 m2 hq
          go_upto_region 13 with fail
          have HSSa : Hid ((fun w' => w'.cell? ⟨q0, 0, none⟩ = some (.int .i64 xsc) ∧ w'.cell? ⟨q0, 1, none⟩ = some (.int .u64 (xze : Int)) ∧ w'.cell? ⟨q0, 2, none⟩ = some (.int .i64 xpo) ∧ w'.cell? ⟨q0, 3, none⟩ = some (.slice xa xpl.length xc) ∧ w'.cell? ⟨q0, 4, none⟩ = some (.int .i64 xno) ∧ w'.cell? ⟨q0, 5, none⟩ = some (.slice xb xnl.length xd)) wa.drew) := by
            obtain ⟨x0, x1, x2, x3, x4, x5⟩ := HistBox.c (h := ⟨xsc, xze, xpo, xpl, xno, xnl⟩) (HistBox.same HQ2.out (HX.out.mp.kept.trans (HKA.out.trans (Kept.refl (fun _ => False) wa).drew)) (fun x => x))
            exact Lib.hid ⟨x0, x1, x2, x3, x4, x5⟩
          refine AnyBut.start (S := fun w' => w'.cell? ⟨q0, 0, none⟩ = some (.int .i64 xsc) ∧ w'.cell? ⟨q0, 1, none⟩ = some (.int .u64 (xze : Int)) ∧ w'.cell? ⟨q0, 2, none⟩ = some (.int .i64 xpo) ∧ w'.cell? ⟨q0, 3, none⟩ = some (.slice xa xpl.length xc) ∧ w'.cell? ⟨q0, 4, none⟩ = some (.int .i64 xno) ∧ w'.cell? ⟨q0, 5, none⟩ = some (.slice xb xnl.length xd)) (k := 3) (by kernel_rfl) ?_
          refine AnyBut.take (i := 0) (v := ?v1) rfl (by kernel_rfl) (by kernel_rfl) (by kernel_rfl) (by kernel_rfl) (fun _ _ _ h => h) (HSSa.out) (Or.inl ⟨by kernel_rfl, ?hy1⟩) ?r1
          case hy1 =>
            intro w hSw
            try dsimp only at hSw
            go_simp
            try with_reducible rfl
          try simp only [Act.put, List.getElem_toArray, List.getElem_cons_zero, List.setIfInBounds_toArray, List.set_cons_zero, List.set_cons_succ]
          refine AnyBut.take (i := 2) (v := ?v2) rfl (by kernel_rfl) (by kernel_rfl) (by kernel_rfl) (by kernel_rfl) (fun _ _ _ h => h) (HSSa.out) (Or.inl ⟨by kernel_rfl, ?hy2⟩) ?r2
          case hy2 =>
            intro w hSw
            try dsimp only at hSw
            go_simp
            try with_reducible rfl
          try simp only [Act.put, List.getElem_toArray, List.getElem_cons_succ, List.getElem_cons_zero, List.setIfInBounds_toArray, List.set_cons_zero, List.set_cons_succ]
          refine AnyBut.one (i := 1) (by kernel_rfl) rfl (fun K hK => ?_)
          go_simp
          go_wp2_with fail
          refine (bnew_any _).mono ?_
          rintro e wb ⟨rfl, hwb⟩
          have hb0 := bnew_at wr.heap.size wa.drew (by have := HKA.out.size; simpa using this)
          rw [← hwb] at hb0
          have kb : Kept (fun _ => False) wa wb := by rw [hwb]; exact (Kept.refl (fun _ => False) wa).drew.alloc _
          have HXB : Hid (HB wr wb wa.heap.size q (.slice none 0 0) [] n (lastV F n) pvq nvq) := Lib.hid ⟨by simpa using hb0, HCQ.out.1.same kb (fun x => x), HCQ.out.2.1.on kb, HCQ.out.2.2.1.on kb, HCQ.out.2.2.2⟩
          have HKB := Lib.hid kb
          clear hwb hb0 kb
          have HSSb : Hid ((fun w' => w'.cell? ⟨q0, 0, none⟩ = some (.int .i64 xsc) ∧ w'.cell? ⟨q0, 1, none⟩ = some (.int .u64 (xze : Int)) ∧ w'.cell? ⟨q0, 2, none⟩ = some (.int .i64 xpo) ∧ w'.cell? ⟨q0, 3, none⟩ = some (.slice xa xpl.length xc) ∧ w'.cell? ⟨q0, 4, none⟩ = some (.int .i64 xno) ∧ w'.cell? ⟨q0, 5, none⟩ = some (.slice xb xnl.length xd)) wb) := by
            obtain ⟨x0, x1, x2, x3, x4, x5⟩ := HistBox.c (h := ⟨xsc, xze, xpo, xpl, xno, xnl⟩) (HistBox.same HQ2.out (HX.out.mp.kept.trans (HKA.out.trans HKB.out)) (fun x => x))
            exact Lib.hid ⟨x0, x1, x2, x3, x4, x5⟩
          go_wp2
          refine hK.out _ _ (HSSb.out) ?_
          clear hK K
          try simp only [Act.put, List.getElem_toArray, List.getElem_cons_succ, List.getElem_cons_zero, List.setIfInBounds_toArray, List.set_cons_zero, List.set_cons_succ]
          refine AnyBut.last (by kernel_rfl) rfl (by kernel_rfl) (fun K hK => ?_)
          go_simp
          go_wp2_with fail
          refine (HPO.out wr wb _ q pvq nvq n (HK2.out.trans HX.out.mp.kept) (by trivial) (by trivial) HNL.out HXB.out).mono ?_
          rintro e wc ⟨rfl, hq2⟩
          have HKC : Hid (Kept (fun _ => False) wr wc) := Lib.hid (by rcases hq2 with ⟨_, h⟩ | ⟨_, v', p', n', h, _, _⟩; exact HXB.out.mp.kept.trans h; exact h.mp.kept)
          clear hq2
          go_wp2
          refine hK.out _ _ ?_
          clear hK K
          try simp only [Act.put, List.getElem_toArray, List.getElem_cons_succ, List.getElem_cons_zero, List.setIfInBounds_toArray, List.set_cons_zero, List.set_cons_succ]
          have HXc := Lib.hid (HX.out.on HKC.out)
          have HBc := Lib.hid (HBI.out.on HKC.out)
          have HRc := Lib.hid (HRO.out.on HKC.out)
          obtain ⟨z0, z1, z2, z3, z4, z5⟩ := HElt.keptS HEL.out (HK2.out.trans HXc.out.mp.kept) (fun x => x)
          dsimp only at z0 z1 z2 z3 z4 z5
          go_wp2_with fail
          refine (HPXi.out wc _ _ _ HXc.out).mono ?_
          rintro e wd ⟨rfl, hq3⟩
          clear z0 z1 z2 z3 z4 z5
          have hkd : Kept (fun _ => False) wc wd := by rcases hq3 with ⟨_, h⟩ | ⟨h, _⟩; exact h; exact absurd h HNE.out
          have HXd := Lib.hid (HXc.out.on hkd)
          have HBd := Lib.hid (HBc.out.on hkd)
          have HRd := Lib.hid (HRc.out.on hkd)
          clear hq3 hkd
          obtain ⟨z0, z1, z2, z3, z4, z5⟩ := HElt.keptS HEL.out (HK2.out.trans HXd.out.mp.kept) (fun x => x)
          dsimp only at z0 z1 z2 z3 z4 z5
          go_wp2_with fail
          refine (HCHi.out wd (HK2.out.trans HXd.out.mp.kept)).mono ?_
          rintro e we ⟨rfl, ke⟩
          clear z0 z1 z2 z3 z4 z5
          have HXe := Lib.hid (HXd.out.on ke)
          have HBe := Lib.hid (HBd.out.on ke)
          have HRe := Lib.hid (HRd.out.on ke)
          clear ke
          have hlenb := bwlen_any _ _ _ _ _ HXe.out.bw
          rw [show (putAll F n).length = nb by have := HNB.out; rw [ints_length] at this; exact this.symm] at hlenb
          have HWL := Lib.hid hlenb
          have HRL := Lib.hid (hlen_any _ _ _ _ _ _ HXe.out.row)
          clear hlenb
          have e2 : ((nb : Int) != (nb : Int)) = false := bneF rfl
          have e3 : ((n : Int) != (n : Int)) = false := bneF rfl
          go_wp2_with fail
          refine HWL.out.mono ?_
          rintro e w' ⟨rfl, rfl⟩
          go_wp2_with fail
          refine HRL.out.mono ?_
          rintro e w' ⟨rfl, rfl⟩
          go_wp2
          go_roundg (ln - (i + 1))
          case measure => have := HD.out; omega
          case rel => exact ⟨i + 1, n, HD.out, rfl, rfl, HLEN.out, ⟨_, _, _, HXe.out⟩, HBe.out, HRe.out⟩
      · have hne : i = ln := by omega
        have hM : n = Fp.length := by rw [hn, hne, HLN.out]; exact HFEQ.out
        clear hn hd
        subst hne
        obtain ⟨M, hMM⟩ : ∃ m, m = Fp.length := ⟨_, rfl⟩
        rw [← hMM] at hM
        subst hM
        have HMM := Lib.hid hMM
        obtain ⟨bs, hbs⟩ : ∃ b, b = putAll F n := ⟨_, rfl⟩
        have hpl := HPL.out (by trivial) n (by omega)
        rw [← hbs] at HX HBI HNB hpl
        have HBS := Lib.hid hbs
        have hW1 := HK2.out.trans HX.out.mp.kept
        have HL1 := Lib.hid fun w' (h : Kept (fun _ => False) wr w') => bwlen_any _ _ _ _ w' (HX.out.on h).bw
        have HB1 := Lib.hid fun w' (h : Kept (fun _ => False) wr w') => bytesStr _ w' _ _ _ (HX.out.on h).bw (by omega)
        have HR1 := Lib.hid fun w' (h : Kept (fun _ => False) wr w') => refBytesStrH _ bs w' (HBI.out.on h).at_ (by omega)
        have HB2 := Lib.hid fun w' (h : Kept (fun _ => False) wr w') => bwbytes_any _ _ _ _ w' (HX.out.on h).bw (by omega)
        have hnbb := packB_length bs
        have HOP := Lib.hid fun w' v (h : SlAt w' v (bys (packB bs))) => bopen_yes v (packB bs) bs.length w' h (by omega) (packB_lt bs) (openE_packedH bs)
        rw [bitsOf_packBH] at HOP
        obtain ⟨S1, hS1⟩ : ∃ S, S = strN (packB bs) := ⟨_, rfl⟩
        rw [← hS1] at HB1 HR1
        obtain ⟨bl, hbl⟩ : ∃ n, n = bs.length := ⟨_, rfl⟩
        rw [← hbl] at HL1 HOP
        have HBL := Lib.hid (And.intro hbl hpl)
        have Krefl := Kept.refl (fun _ => False) wr
        have HW1 := Lib.hid hW1
        clear hnbb hS1 hbl hpl hbs hMM hnl hil hW1
        go_upto_region 22 with fail
        go_cut [91] (fun s91 wc => s91 = .bool false ∧ Kept (fun _ => False) wr wc)
        case first =>
          have kd : Kept (fun _ => False) wr wr.drew := (Kept.refl _ wr).drew
          go_region_with (first
            | (go_at_call 18; refine (HR1.out _ (by assumption)).mono ?_; rintro e w7 ⟨vc, rfl, hcw, k7⟩; have kc7 := Kept.trans (show Kept (fun _ => False) wr _ from by assumption) k7; have k77 := Kept.refl (fun _ => False) w7)
            | (go_at_call 17; refine (HB1.out _ (by assumption)).mono ?_; rintro e w6 ⟨vb, rfl, hcv, k6⟩; have kc := Kept.trans (show Kept (fun _ => False) wr _ from by assumption) k6; have k66 := Kept.refl (fun _ => False) w6)
            | fail)
          all_goals
            go_wp2
            go_meet
            case rel => exact ⟨rfl, by assumption⟩
        case rest =>
          obtain ⟨rfl, kc⟩ := hcut
          have HC0 := Lib.hid kc
          clear kc Krefl
          go_wp2_with fail
          refine (HB2.out _ HC0.out).mono ?_
          rintro e w8 ⟨vb8, rfl, ho8, k8⟩
          have HO8 := Lib.hid (SlAt.ofOwn ho8)
          have HC8 := Lib.hid (HC0.out.trans k8)
          clear ho8 k8
          go_wp2_with fail
          refine (HL1.out _ HC8.out).mono ?_
          rintro e w' ⟨rfl, rfl⟩
          go_wp2_with fail
          refine (HOP.out _ _ HO8.out).mono ?_
          rintro e w9 ⟨pr, rv, rfl, hr9, k9⟩
          have HR9 := Lib.hid hr9
          have HK9 := Lib.hid k9
          clear hr9 k9
          go_wp2_with fail
          refine (hnewRow_any w9).mono ?_
          rintro e w10 ⟨rfl, hx10, k10⟩
          have hrd : HRd w8 w10 pr w9.heap.size rv bs (putAll F 0).length 0 (lastV F 0) (.slice none 0 0) (.slice none 0 0) := ⟨HR9.out.keptF k10, hx10, Mine.nil' _ (HK9.out.trans k10), Mine.nil' _ (HK9.out.trans k10), HK9.out.size⟩
          obtain ⟨r2, hr2⟩ : ∃ r2, r2 = w9.heap.size := ⟨_, rfl⟩
          rw [← hr2] at hrd ⊢
          have HRD0 := Lib.hid hrd
          have HW8 := Lib.hid (HW1.out.trans HC8.out)
          have HRO8 := Lib.hid (HRO.out.on HC8.out)
          clear hx10 k10 hrd hr2
          go_wp2
          go_loopg [14] n (fun g s14 wr => ∃ j : Nat, j ≤ n ∧ g = n - j ∧ s14 = .int .i64 j ∧ ∃ gp gn, HRd w8 wr pr r2 rv bs (putAll F j).length j (lastV F j) gp gn)
          case atStart => exact ⟨0, Nat.zero_le _, rfl, rfl, _, _, HRD0.out⟩
          case round =>
            obtain ⟨j, hjn, rfl, rfl, gp, gn, hrd⟩ := hrel
            have HRD := Lib.hid hrd
            clear hrd
            by_cases hd : j < n
            · have hdi : (j : Int) < (n : Int) := by omega
              have hj0 : (0 : Int) ≤ (j : Int) := by omega
              have HD := Lib.hid hd
              have wi : IntKind.i64.wrap ((j : Int) + 1) = ((j + 1 : Nat) : Int) := by rw [IntWalk.i64_in _ ⟨by omega, by have := (HSO.out (by trivial)).1; have := HLL.out.1; have := HMM.out; omega⟩]; omega
              obtain ⟨P, hP1, hP2, hPe, hPo, hPa, hPl, hPn⟩ := HFI.out j (by have := HMM.out; omega)
              obtain ⟨rest, hrest⟩ := putAll_drop F j n hd
              rw [hP2] at hrest
              have hgot := gotH_put j (lastV F j) P.h rest hPe hPo
              rw [← hrest, ← HBS.out] at hgot
              have hlv := HLV.out j (by have := HMM.out; omega)
              have HGE := Lib.hid (hget_any w8 wr pr r2 j rv gp gn (lastV F j) bs _ HRD.out (by have := HW8.out.size; have := HX.out.base _ (.inl rfl); have := HX.out.mp.kept.size; have := HC8.out.size; have := HK2.out.size; have := HQ.out; have := (Array.getElem?_eq_some_iff.1 HQ2.out).1; omega) (by have := HBL.out; omega) (HTT.out _ HW8.out) (HLO.out j (by have := HMM.out; omega)) hlv.1 hlv.2 (by have := (HSO.out (by trivial)).1; have := HLL.out.1; have := HMM.out; omega) _ hgot.symm (by dsimp only; omega) (by dsimp only; omega))
              have HNXT : Hid ((putAll F j).length + (nextH j (lastV F j) P.h).length = (putAll F (j + 1)).length ∧ lastV F (j + 1) = P.h) := Lib.hid ⟨by show _ = (putAll F j ++ nextH j (lastV F j) (F.getD j zeroH)).length; rw [hP2, List.length_append], by rw [lastV_succ, hP2]⟩
              obtain ⟨ge, oe, hge, hrec⟩ := HRO8.out.at_ (by rw [List.length_take]; have := HMM.out; omega)
              subst hge
              have hel := hrec j P (by rw [List.getElem?_take_of_lt (by omega)]; exact hP1)
              have HEf0 := Lib.hid hel
              have HSAi := Lib.hid fun w' p1 n1 (k1 : HistAt w' P.h p1 n1) (k2 : HistAt w' P.h P.pv P.nv) => refSame_any P.h P.h p1 n1 P.pv P.nv w' k1 k2 (by omega) (by omega)
              rw [decide_eq_true ((sameH_iff P.h P.h).mpr rfl)] at HSAi
              have HPA := Lib.hid fun w' (k : Kept (fun _ => False) W w') => hPa.on k
              have HPN := Lib.hid hPl
              obtain ⟨⟨fsc, fze, fpo, fpl, fno, fnl⟩, a3, c3, a4, c4⟩ := P
              obtain ⟨NXL, hNXL⟩ : ∃ x, x = (nextH j (lastV F j) ⟨fsc, fze, fpo, fpl, fno, fnl⟩).length := ⟨_, rfl⟩
              dsimp only at HGE HNXT HEf0 HSAi HPA HPN
              rw [← hNXL] at HGE HNXT
              unfold HP.pv HP.nv at HPA HSAi
              unfold histV at HSAi
              dsimp only at HPA HSAi
              clear hd hP1 hP2 hPe hPo hPa hPl hPn hrest hgot hlv hrec hel hNXL hjn
              go_wp2_with fail
              refine HGE.out.mono ?_
              rintro e w11 hq
              obtain ⟨pv, nv, rfl, o1, o2, p', n', hrd, hkr, hap⟩ : ∃ pv nv, e = .returned (.tuple #[histV ⟨fsc, fze, fpo, fpl, fno, fnl⟩ pv nv, .int .i64 0]) ∧ OwnU wr w11 pv fpl ∧ OwnU wr w11 nv fnl ∧ ∃ p' n', HRd w8 w11 pr r2 rv bs ((putAll F j).length + NXL) (j + 1) ⟨fsc, fze, fpo, fpl, fno, fnl⟩ p' n' ∧ Kept (fun k => k = pr ∨ k = r2) wr w11 ∧ (∀ k, pv.ownBlock = some k → p'.ownBlock ≠ some k ∧ n'.ownBlock ≠ some k) := by
                rcases hq with ⟨h, _⟩ | ⟨_, h⟩
                · exact absurd rfl h
                · exact h
              rw [HNXT.out.1, ← HNXT.out.2] at hrd
              obtain ⟨ab2, cb2, rfl⟩ := o1.slice
              obtain ⟨an2, cn2, rfl⟩ := o2.slice
              unfold histV
              dsimp only
              obtain ⟨wj, hwj⟩ : ∃ w', w' = w11.alloc (.cells #[.int .i64 fsc, .int .u64 (fze : Int), .int .i64 fpo, .slice ab2 fpl.length cb2, .int .i64 fno, .slice an2 fnl.length cn2] 62) := ⟨_, rfl⟩
              have kj : Kept (fun _ => False) w11 wj := by rw [hwj]; exact (Kept.refl _ _).alloc _
              have HWJ := Lib.hid hwj
              obtain ⟨qh, hqh⟩ : ∃ q, q = w11.heap.size := ⟨_, rfl⟩
              have HQh := Lib.hid (show HistBox wj qh ⟨fsc, fze, fpo, fpl, fno, fnl⟩ (.slice ab2 fpl.length cb2) (.slice an2 fnl.length cn2) by rw [hwj, hqh]; exact heap_alloc_new w11 _)
              have HRj := Lib.hid (hrd.on kj)
              have HAP := Lib.hid hap
              have HO1 := Lib.hid (o1.kept kj (fun _ _ x => x))
              have HKj : Hid (Kept (fun _ => False) w8 wj) := Lib.hid (hrd.mp.kept.trans kj)
              have HEf := Lib.hid (show HElt wj ge (oe + j * 6) ⟨⟨fsc, fze, fpo, fpl, fno, fnl⟩, a3, c3, a4, c4⟩ from HElt.keptS HEf0.out HKj.out (fun x => x))
              have HHd := Lib.hid (show HistAt wj.drew ⟨fsc, fze, fpo, fpl, fno, fnl⟩ (.slice ab2 fpl.length cb2) (.slice an2 fnl.length cn2) from ⟨(HO1.out.kept (Kept.refl (fun _ => False) wj).drew (fun _ _ x => x)).at_, ((o2.kept kj (fun _ _ x => x)).kept (Kept.refl (fun _ => False) wj).drew (fun _ _ x => x)).at_⟩)
              have HHf := Lib.hid (HPA.out wj.drew ((HW8.out.trans HKj.out).trans (Kept.refl (fun _ => False) wj).drew))
              clear hq o1 o2 hrd hkr hap kj hwj
              go_upto_region 32 with fail
              rw [← HWJ.out, ← hqh]
              clear hqh
              have hkd := (Kept.refl (fun _ => False) wj).drew
              have HSSj : Hid ((fun w' => w'.cell? ⟨qh, 0, none⟩ = some (.int .i64 fsc) ∧ w'.cell? ⟨qh, 1, none⟩ = some (.int .u64 (fze : Int)) ∧ w'.cell? ⟨qh, 2, none⟩ = some (.int .i64 fpo) ∧ w'.cell? ⟨qh, 3, none⟩ = some (.slice ab2 fpl.length cb2) ∧ w'.cell? ⟨qh, 4, none⟩ = some (.int .i64 fno) ∧ w'.cell? ⟨qh, 5, none⟩ = some (.slice an2 fnl.length cn2) ∧ w'.cell? ⟨ge, oe + j * 6, none⟩ = some (.int .i64 fsc) ∧ w'.cell? ⟨ge, oe + j * 6 + 1, none⟩ = some (.int .u64 (fze : Int)) ∧ w'.cell? ⟨ge, oe + j * 6 + 2, none⟩ = some (.int .i64 fpo) ∧ w'.cell? ⟨ge, oe + j * 6 + 3, none⟩ = some (.slice a3 fpl.length c3) ∧ w'.cell? ⟨ge, oe + j * 6 + 4, none⟩ = some (.int .i64 fno) ∧ w'.cell? ⟨ge, oe + j * 6 + 5, none⟩ = some (.slice a4 fnl.length c4)) wj.drew) := by
                obtain ⟨x0, x1, x2, x3, x4, x5⟩ := HistBox.c (h := ⟨fsc, fze, fpo, fpl, fno, fnl⟩) (HistBox.same HQh.out hkd (fun x => x))
                obtain ⟨z0, z1, z2, z3, z4, z5⟩ := HElt.keptS HEf.out hkd (fun x => x)
                dsimp only at x0 x1 x2 x3 x4 x5 z0 z1 z2 z3 z4 z5
                exact Lib.hid ⟨x0, x1, x2, x3, x4, x5, z0, z1, z2, z3, z4, z5⟩
              clear hkd
              refine AnyBut.start (S := fun w' => w'.cell? ⟨qh, 0, none⟩ = some (.int .i64 fsc) ∧ w'.cell? ⟨qh, 1, none⟩ = some (.int .u64 (fze : Int)) ∧ w'.cell? ⟨qh, 2, none⟩ = some (.int .i64 fpo) ∧ w'.cell? ⟨qh, 3, none⟩ = some (.slice ab2 fpl.length cb2) ∧ w'.cell? ⟨qh, 4, none⟩ = some (.int .i64 fno) ∧ w'.cell? ⟨qh, 5, none⟩ = some (.slice an2 fnl.length cn2) ∧ w'.cell? ⟨ge, oe + j * 6, none⟩ = some (.int .i64 fsc) ∧ w'.cell? ⟨ge, oe + j * 6 + 1, none⟩ = some (.int .u64 (fze : Int)) ∧ w'.cell? ⟨ge, oe + j * 6 + 2, none⟩ = some (.int .i64 fpo) ∧ w'.cell? ⟨ge, oe + j * 6 + 3, none⟩ = some (.slice a3 fpl.length c3) ∧ w'.cell? ⟨ge, oe + j * 6 + 4, none⟩ = some (.int .i64 fno) ∧ w'.cell? ⟨ge, oe + j * 6 + 5, none⟩ = some (.slice a4 fnl.length c4)) (k := 11) (by kernel_rfl) ?_
              refine AnyBut.takeS (i := 0) (v := ?v5) rfl (by kernel_rfl) (Nat.le_of_eq (by kernel_rfl)) (by kernel_rfl) (by kernel_rfl) (fun _ _ _ h => h) (HSSj.out) (Or.inl ⟨by kernel_rfl, ?hy5⟩) ?r5
              case hy5 =>
                intro w hSw
                try dsimp only at hSw
                go_simp
                try with_reducible rfl
              try simp only [Act.put, List.getElem_toArray, List.getElem_cons_zero, List.setIfInBounds_toArray, List.set_cons_zero, List.set_cons_succ]
              refine AnyBut.takeS (i := 1) (v := ?v6) rfl (by kernel_rfl) (Nat.le_of_eq (by kernel_rfl)) (by kernel_rfl) (by kernel_rfl) (fun _ _ _ h => h) (HSSj.out) (Or.inl ⟨by kernel_rfl, ?hy6⟩) ?r6
              case hy6 =>
                intro w hSw
                try dsimp only at hSw
                go_simp
                try with_reducible rfl
              try simp only [Act.put, List.getElem_toArray, List.getElem_cons_succ, List.getElem_cons_zero, List.setIfInBounds_toArray, List.set_cons_zero, List.set_cons_succ]
              refine AnyBut.takeS (i := 2) (v := ?v7) rfl (by kernel_rfl) (Nat.le_of_eq (by kernel_rfl)) (by kernel_rfl) (by kernel_rfl) (fun _ _ _ h => h) (HSSj.out) (Or.inl ⟨by kernel_rfl, ?hy7⟩) ?r7
              case hy7 =>
                intro w hSw
                try dsimp only at hSw
                go_simp
                try with_reducible rfl
              try simp only [Act.put, List.getElem_toArray, List.getElem_cons_succ, List.getElem_cons_zero, List.setIfInBounds_toArray, List.set_cons_zero, List.set_cons_succ]
              refine AnyBut.takeS (i := 3) (v := ?v8) rfl (by kernel_rfl) (Nat.le_of_eq (by kernel_rfl)) (by kernel_rfl) (by kernel_rfl) (fun _ _ _ h => h) (HSSj.out) (Or.inl ⟨by kernel_rfl, ?hy8⟩) ?r8
              case hy8 =>
                intro w hSw
                try dsimp only at hSw
                go_simp
                try with_reducible rfl
              try simp only [Act.put, List.getElem_toArray, List.getElem_cons_succ, List.getElem_cons_zero, List.setIfInBounds_toArray, List.set_cons_zero, List.set_cons_succ]
              refine AnyBut.takeS (i := 4) (v := ?v9) rfl (by kernel_rfl) (Nat.le_of_eq (by kernel_rfl)) (by kernel_rfl) (by kernel_rfl) (fun _ _ _ h => h) (HSSj.out) (Or.inl ⟨by kernel_rfl, ?hy9⟩) ?r9
              case hy9 =>
                intro w hSw
                try dsimp only at hSw
                go_simp
                try with_reducible rfl
              try simp only [Act.put, List.getElem_toArray, List.getElem_cons_succ, List.getElem_cons_zero, List.setIfInBounds_toArray, List.set_cons_zero, List.set_cons_succ]
              refine AnyBut.takeS (i := 5) (v := ?v10) rfl (by kernel_rfl) (Nat.le_of_eq (by kernel_rfl)) (by kernel_rfl) (by kernel_rfl) (fun _ _ _ h => h) (HSSj.out) (Or.inl ⟨by kernel_rfl, ?hy10⟩) ?r10
              case hy10 =>
                intro w hSw
                try dsimp only at hSw
                go_simp
                try with_reducible rfl
              try simp only [Act.put, List.getElem_toArray, List.getElem_cons_succ, List.getElem_cons_zero, List.setIfInBounds_toArray, List.set_cons_zero, List.set_cons_succ]
              refine AnyBut.takeS (i := 6) (v := ?v11) rfl (by kernel_rfl) (Nat.le_of_eq (by kernel_rfl)) (by kernel_rfl) (by kernel_rfl) (fun _ _ _ h => h) (HSSj.out) (Or.inl ⟨by kernel_rfl, ?hy11⟩) ?r11
              case hy11 =>
                intro w hSw
                try dsimp only at hSw
                go_simp
                try with_reducible rfl
              try simp only [Act.put, List.getElem_toArray, List.getElem_cons_succ, List.getElem_cons_zero, List.setIfInBounds_toArray, List.set_cons_zero, List.set_cons_succ]
              refine AnyBut.takeS (i := 7) (v := ?v12) rfl (by kernel_rfl) (Nat.le_of_eq (by kernel_rfl)) (by kernel_rfl) (by kernel_rfl) (fun _ _ _ h => h) (HSSj.out) (Or.inl ⟨by kernel_rfl, ?hy12⟩) ?r12
              case hy12 =>
                intro w hSw
                try dsimp only at hSw
                go_simp
                try with_reducible rfl
              try simp only [Act.put, List.getElem_toArray, List.getElem_cons_succ, List.getElem_cons_zero, List.setIfInBounds_toArray, List.set_cons_zero, List.set_cons_succ]
              refine AnyBut.one (i := 8) (by kernel_rfl) rfl (fun K hK => ?_)
              go_simp
              go_wp2_with fail
              refine (HSAi.out _ _ _ HHd.out HHf.out).mono ?_
              rintro e wk ⟨rfl, kk⟩
              have HKk := Lib.hid ((Kept.refl (fun _ => False) wj).drew.trans kk)
              clear kk
              have HSSk : Hid ((fun w' => w'.cell? ⟨qh, 0, none⟩ = some (.int .i64 fsc) ∧ w'.cell? ⟨qh, 1, none⟩ = some (.int .u64 (fze : Int)) ∧ w'.cell? ⟨qh, 2, none⟩ = some (.int .i64 fpo) ∧ w'.cell? ⟨qh, 3, none⟩ = some (.slice ab2 fpl.length cb2) ∧ w'.cell? ⟨qh, 4, none⟩ = some (.int .i64 fno) ∧ w'.cell? ⟨qh, 5, none⟩ = some (.slice an2 fnl.length cn2) ∧ w'.cell? ⟨ge, oe + j * 6, none⟩ = some (.int .i64 fsc) ∧ w'.cell? ⟨ge, oe + j * 6 + 1, none⟩ = some (.int .u64 (fze : Int)) ∧ w'.cell? ⟨ge, oe + j * 6 + 2, none⟩ = some (.int .i64 fpo) ∧ w'.cell? ⟨ge, oe + j * 6 + 3, none⟩ = some (.slice a3 fpl.length c3) ∧ w'.cell? ⟨ge, oe + j * 6 + 4, none⟩ = some (.int .i64 fno) ∧ w'.cell? ⟨ge, oe + j * 6 + 5, none⟩ = some (.slice a4 fnl.length c4)) wk) := by
                obtain ⟨x0, x1, x2, x3, x4, x5⟩ := HistBox.c (h := ⟨fsc, fze, fpo, fpl, fno, fnl⟩) (HistBox.same HQh.out HKk.out (fun x => x))
                obtain ⟨z0, z1, z2, z3, z4, z5⟩ := HElt.keptS HEf.out HKk.out (fun x => x)
                dsimp only at x0 x1 x2 x3 x4 x5 z0 z1 z2 z3 z4 z5
                exact Lib.hid ⟨x0, x1, x2, x3, x4, x5, z0, z1, z2, z3, z4, z5⟩
              go_wp2
              refine hK.out _ _ (HSSk.out) ?_
              clear hK K
              try simp only [Act.put, List.getElem_toArray, List.getElem_cons_succ, List.getElem_cons_zero, List.setIfInBounds_toArray, List.set_cons_zero, List.set_cons_succ]
              refine AnyBut.takeS (i := 9) (v := ?v13) rfl (by kernel_rfl) (Nat.le_of_eq (by kernel_rfl)) (by kernel_rfl) (by kernel_rfl) (fun _ _ _ h => h) (HSSk.out) (Or.inl ⟨by kernel_rfl, ?hy13⟩) ?r13
              case hy13 =>
                intro w hSw
                try dsimp only at hSw
                go_simp
                try with_reducible rfl
              try simp only [Act.put, List.getElem_toArray, List.getElem_cons_succ, List.getElem_cons_zero, List.setIfInBounds_toArray, List.set_cons_zero, List.set_cons_succ]
              refine AnyBut.takeS (i := 10) (v := ?v14) rfl (by kernel_rfl) (Nat.le_of_eq (by kernel_rfl)) (by kernel_rfl) (by kernel_rfl) (fun _ _ _ h => h) (HSSk.out) (Or.inl ⟨by kernel_rfl, ?hy14⟩) ?r14
              case hy14 =>
                intro w hSw
                try dsimp only at hSw
                go_simp
                try with_reducible rfl
              try simp only [Act.put, List.getElem_toArray, List.getElem_cons_succ, List.getElem_cons_zero, List.setIfInBounds_toArray, List.set_cons_zero, List.set_cons_succ]
              refine AnyBut.done (by kernel_rfl) ?_
              have HRk := Lib.hid (HRj.out.on HKk.out)
              have HOK := Lib.hid (HO1.out.kept HKk.out (fun _ _ x => x))
              obtain ⟨B2, hB2⟩ : ∃ b, b = wr.heap.size := ⟨_, rfl⟩
              have HB2' := Lib.hid (show w8.heap.size ≤ B2 by rw [hB2]; exact HRD.out.mp.kept.size)
              unfold OwnU at HOK
              rw [← hB2] at HOK
              clear hB2
              obtain ⟨fn, hfn⟩ : ∃ k, k = fpl.length := ⟨_, rfl⟩
              have HFN := Lib.hid hfn
              have HQk := Lib.hid (HistBox.same HQh.out HKk.out (fun x => x))
              have HQN := Lib.hid (own_box HOK.out HQk.out (by decide))
              have HAPk := HAP.out
              rw [← hfn] at HOK HQN HAPk
              have HAPf := Lib.hid HAPk
              have hov : Over B2 wk wk ab2 fn cb2 := ⟨⟨_, by rw [uvals_length]; exact hfn.symm, HOK.out⟩, Kept.refl _ _⟩
              have HOV := Lib.hid hov
              have HX3 : Hid (wk.heap[qh]? = some (.cells #[.int .i64 fsc, .int .u64 (fze : Int), .int .i64 fpo, .slice ab2 fn cb2, .int .i64 fno, .slice an2 fnl.length cn2] 62 (0, 0))) := Lib.hid (by rw [hfn]; exact HQk.out)
              clear hfn hov HAPk HQk
              go_wp2
              go_loopg [17] fn (fun g s17 wr => ∃ k : Nat, k ≤ fn ∧ g = fn - k ∧ s17 = .int .i64 k ∧ Over B2 wk wr ab2 fn cb2)
              case atStart => exact ⟨0, Nat.zero_le _, rfl, rfl, HOV.out⟩
              case round =>
                obtain ⟨k, hk, rfl, rfl, hov⟩ := hrel
                have HOVr := Lib.hid hov
                have hbx := hov.kept.same HX3.out HQN.out
                have x3 : wr.cell? ⟨qh, 3, none⟩ = some (.slice ab2 fn cb2) := (cell_of_row _ qh 3 _ _ _ hbx).trans rfl
                clear hbx
                by_cases hkd : k < fn
                · have hki : (k : Int) < (fn : Int) := by omega
                  have HKD2 := Lib.hid hkd
                  have wk2 : IntKind.i64.wrap ((k : Int) + 1) = ((k + 1 : Nat) : Int) := by rw [IntWalk.i64_in _ ⟨by omega, by have := HPN.out; have := HFN.out; omega⟩]; omega
                  obtain ⟨g, hg, hc⟩ := hov.at0 (by omega)
                  obtain ⟨⟨u, hu⟩, hf⟩ := hc k hkd
                  subst hg
                  clear hc hov hk hkd
                  go_wp2
                  go_roundg (fn - (k + 1))
                  case measure => have := HKD2.out; omega
                  case rel => exact ⟨k + 1, HKD2.out, rfl, rfl, HOVr.out.set k 77⟩
                · obtain rfl : fn = k := by omega
                  have HRo := Lib.hid (HRk.out.over HB2'.out hov ⟨_, HOK.out⟩ HAPf.out)
                  clear hov hk hkd
                  go_wp2
                  go_roundg (n - (j + 1))
                  case measure => have := HD.out; omega
                  case rel => exact ⟨j + 1, HD.out, rfl, rfl, _, _, HRo.out⟩
            · obtain rfl : n = j := by omega
              have hlf := bleft_any _ _ _ _ _ _ HRD.out.br (by have := HBL.out; omega)
              rw [← HBS.out, Nat.sub_self] at hlf
              have HLF := Lib.hid (show Calls Tryd.prog 32 #[.pointer (some ⟨pr, 0, none⟩)] wr (fun e w' => Drew wr w' (e = .returned (.int .i64 0))) from hlf)
              clear hlf hd
              go_wp2_with fail
              refine HLF.out.mono ?_
              rintro e w12 ⟨rfl, q, rfl⟩
              go_wp2
              go_ret
              exact ⟨rfl, (HW8.out.trans HRD.out.mp.kept).drewN q⟩
end Go.Proofs.YtjpnfadmblmjbaaDoor
/- A histogram, or a side, that came in: opened. -/
namespace Go.Proofs.YtjpnfadmblmjbaaDoor
open Go.ChangeShapes Go.WideShapes Go.ChangeAt Go.RowKit

theorem array6 {α : Type} {cs : Array α} (h : cs.size = 6) : ∃ c0 c1 c2 c3 c4 c5, cs = #[c0, c1, c2, c3, c4, c5] := by
  obtain ⟨l⟩ := cs
  match l, h with
  | [c0, c1, c2, c3, c4, c5], _ => exact ⟨c0, c1, c2, c3, c4, c5, rfl⟩
/-- A side that came in. -/
structure SideIn (W : World) (o : Int) (l : List Nat) (v : Value) : Prop where
  io : I64 o
  at_ : SlAt W v (uvals l)
  lt : ∀ x ∈ l, x < 18446744073709551616
  cap : ∀ a n c, v = .slice a n c → n ≤ c
theorem side_cells {H : Type} {enc : TypeId × Value → H} {W : World} {sp n : Nat} {c0 c1 : Value} {y : DataW H × List MemPlace} (h : DataW.trod enc Tryd.prog W sp (fun _ => true) true n 60 [c0, c1] = some y) :
    ∃ o l, c0 = .int .i64 o ∧ SideIn W o l c1 := by
  obtain ⟨y0, y1, m, _, _, h0, h1⟩ := trod_struct2 Tryd.underlying60 h
  have k0 : Tryd.prog.cellsOf 3 = 1 := by kernel_rfl
  have k1 : Tryd.prog.cellsOf 22 = 1 := by kernel_rfl
  simp only [k0, k1, List.drop_zero, List.drop_succ_cons, List.take_succ_cons, List.take_zero] at h0 h1
  cases m with
  | zero => simp [DataW.trod] at h0
  | succ m =>
  obtain ⟨o, e0, _, w0⟩ := DataW.trod_int Tryd.underlying3 h0
  obtain ⟨a, len, cap, e1⟩ := Go.Joins.slice_form Tryd.underlying22 h1
  injection e0 with e0 _
  injection e1 with e1 _
  subst e0 e1
  obtain ⟨zs, hr⟩ := isRow_of (d := y1.1) (p := y1.2) Tryd.underlying22 Tryd.underlying28 (by kernel_rfl) ⟨m + 1, by simpa [Value.cells] using h1⟩
  obtain ⟨l, hl, hlt, hat⟩ := hr.slAtN 18446744073709551616 (fun x hx => by have := bd_u64 hx; omega)
  refine ⟨o, l, rfl, ?_, hat, hlt, ?_⟩
  · have := bd_i64 w0; unfold I64; omega
  · intro a' n' c' e
    injection e with e1 e2 e3
    subst e2 e3
    rcases hr with ⟨_, h2, h3, _⟩ | ⟨_, _, h2, _⟩
    · omega
    · exact h2

set_option maxRecDepth 100000 in
theorem side_open {H : Type} {enc : TypeId × Value → H} {W : World} {sp b0 : Nat} {r : Reach} {v : Value} {d : DataW H} {p : List MemPlace} (hv : Value.okWide Tryd.prog W r b0 60 v) (h : DataW.Trod enc Tryd.prog W sp (fun _ => true) true 60 v d p) :
    ∃ o l c1, v = .agg #[.int .i64 o, c1] ∧ SideIn W o l c1 := by
  obtain ⟨cs, rfl, hsz⟩ := okWide_struct Tryd.underlying60 hv
  have k2 : Tryd.prog.cellsOf 60 = 2 := by kernel_rfl
  obtain ⟨c0, c1, rfl⟩ := Go.Joins.array2 (hsz.trans k2)
  obtain ⟨fuel, hf⟩ := h
  obtain ⟨o, l, e, hs⟩ := side_cells (by simpa [Value.cells] using hf)
  exact ⟨o, l, c1, by rw [e], hs⟩

set_option maxRecDepth 100000 in
theorem hist_open {H : Type} {enc : TypeId × Value → H} {W : World} {sp b0 : Nat} {r : Reach} {v : Value} {d : DataW H} {p : List MemPlace} (hv : Value.okWide Tryd.prog W r b0 62 v) (h : DataW.Trod enc Tryd.prog W sp (fun _ => true) true 62 v d p) :
    ∃ x pv nv, v = histV x pv nv ∧ HistIn W x pv nv := by
  obtain ⟨cs, rfl, hsz⟩ := okWide_struct Tryd.underlying62 hv
  have k6 : Tryd.prog.cellsOf 62 = 6 := by kernel_rfl
  obtain ⟨c0, c1, c2, c3, c4, c5, rfl⟩ := array6 (hsz.trans k6)
  obtain ⟨fuel, hf⟩ := h
  obtain ⟨y0, y1, y2, y3, m, _, _, h0, h1, h2, h3⟩ := Go.Joins.trod_struct4 Tryd.underlying62 (cs := [c0, c1, c2, c3, c4, c5]) (by simpa [Value.cells] using hf)
  have k0 : Tryd.prog.cellsOf 3 = 1 := by kernel_rfl
  have k1 : Tryd.prog.cellsOf 28 = 1 := by kernel_rfl
  have k2 : Tryd.prog.cellsOf 60 = 2 := by kernel_rfl
  simp only [k0, k1, k2, List.drop_zero, List.drop_succ_cons, List.take_succ_cons, List.take_zero] at h0 h1 h2 h3
  cases m with
  | zero => simp [DataW.trod] at h0
  | succ m =>
  obtain ⟨sc, e0, _, w0⟩ := DataW.trod_int Tryd.underlying3 h0
  obtain ⟨ze, e1, _, w1⟩ := DataW.trod_int Tryd.underlying28 h1
  injection e0 with e0 _
  injection e1 with e1 _
  subst e0 e1
  obtain ⟨po, pl, rfl, hp⟩ := side_cells h2
  obtain ⟨no, nl, rfl, hn⟩ := side_cells h3
  have b0' := bd_i64 w0
  have b1' := bd_u64 w1
  refine ⟨⟨sc, ze.toNat, po, pl, no, nl⟩, c3, c5, ?_, ⟨hp.at_, hn.at_⟩, ⟨by simp only; omega, by simp only; omega, hp.io, hp.lt, hn.io, hn.lt⟩, hp.cap, hn.cap⟩
  unfold histV
  simp only
  rw [show ((ze.toNat : Nat) : Int) = ze by omega]
end Go.Proofs.YtjpnfadmblmjbaaDoor
/- A slice of structs that came in, field by field. -/
namespace Go.Proofs.YtjpnfadmblmjbaaDoor
open Go.ChangeShapes Go.WideShapes Go.Deep Go.RowKit

/-- Each element of a slice of structs (of fields of one cell each) lies in its cells, and each field reads by its own type. -/
theorem recs_of {H : Type} {enc : TypeId × Value → H} {P : Program} {W : World} {sp : Nat} {T E : TypeId} {fs : Array Field} {a : Option Addr} {len cap : Nat} {d : DataW H} {p : List MemPlace}
    (hT : P.underlying T = some (.slice E)) (hE : P.underlying E = some (.struct fs)) (hone : oneCellFields P fs = true) (hC : P.cellsOf E = fs.size) (h : DataW.Trod enc P W sp (fun _ => true) true T (.slice a len cap) d p) :
    (a = none ∧ len = 0 ∧ cap = 0) ∨
    ∃ x, a = some x ∧ len ≤ cap ∧ cap ≤ maxLen ∧ ∀ i, i < len → ∀ (j : Nat) (f : Field), fs[j]? = some f → ∃ (v : Value) (n : Nat) (y : DataW H × List MemPlace), W.cell? (x.add (i * fs.size + j)) = some v ∧ DataW.trod enc P W sp (fun _ => true) true n f.type [v] = some y := by
  obtain ⟨fuel, hf⟩ := h
  rcases open_slice hT hf with ⟨hcs, _⟩ | ⟨x, l, c, m, n, D, Pl, hcs, _, hl, hm, hmm, _, hi⟩
  · simp [Value.cells] at hcs
    obtain ⟨rfl, rfl, rfl⟩ := hcs
    exact .inl ⟨rfl, rfl, rfl⟩
  · simp [Value.cells] at hcs
    obtain ⟨rfl, rfl, rfl⟩ := hcs
    refine .inr ⟨x, rfl, hl, hm, fun i hil j f hj => ?_⟩
    obtain ⟨cs', hc, ht'⟩ := hi i (by simp at hmm; omega)
    rw [hC] at hc
    obtain ⟨ys, n', _, _, _, hyl, hg⟩ := DataW.trod_struct hE ht'
    obtain ⟨_, hcl, hat⟩ := World.cells?_some hc
    obtain ⟨ho, hk⟩ := hone_of hone j f hj
    have hjl : j < fs.size := (Array.getElem?_eq_some_iff.1 hj).1
    have h1 := hg j f hj
    rw [ho, hk, List.drop_eq_getElem_cons (by omega), List.take_succ_cons, List.take_zero, List.getElem?_eq_getElem (by omega)] at h1
    refine ⟨cs'[j]'(by omega), n', _, ?_, h1⟩
    rw [← Go.Deep.add_add, hat j hjl, List.getElem?_eq_getElem (by omega)]
end Go.Proofs.YtjpnfadmblmjbaaDoor
/- Fields of structs that came in, read by their types; a list chosen element by element. It imports nothing of a translation. -/
namespace Go.Proofs.YtjpnfadmblmjbaaDoor
open Go.ChangeShapes Go.WideShapes Go.ChangeAt Go.RowKit Go.Deep

theorem trod_row {H : Type} {enc : TypeId × Value → H} {P : Program} {T E : TypeId} {k : IntKind} {W : World} {sp n : Nat} {v : Value} {y : DataW H × List MemPlace}
    (hT : P.underlying T = some (.slice E)) (hE : P.underlying E = some (.int k)) (hc : P.cellsOf E = 1) (h : DataW.trod enc P W sp (fun _ => true) true n T [v] = some y) : ∃ ao len cap zs, v = .slice ao len cap ∧ IsRow k W ao len cap zs := by
  rcases open_ints hT hE hc h with ⟨hcs, _⟩ | ⟨x, l, c, zs, hcs, _, hl, hm, hz, _, hcell, hwz⟩
  · injection hcs with e _
    exact ⟨none, 0, 0, [], e, .inl ⟨rfl, rfl, rfl, rfl⟩⟩
  · injection hcs with e _
    exact ⟨some x, l, c, zs, e, .inr ⟨_, rfl, hl, hm, by simpa using hz, hcell, hwz⟩⟩
theorem trod_i64 {H : Type} {enc : TypeId × Value → H} {P : Program} {T : TypeId} {k : IntKind} {W : World} {sp n : Nat} {v : Value} {y : DataW H × List MemPlace}
    (hT : P.underlying T = some (.int k)) (h : DataW.trod enc P W sp (fun _ => true) true n T [v] = some y) : ∃ x, v = .int k x ∧ (Lit.int k x).wf = true := by
  obtain ⟨x, e, _, hw⟩ := DataW.trod_int hT h
  injection e with e _
  exact ⟨x, e, hw⟩
theorem wf_u8 (x : Int) (h : (Lit.int .u8 x).wf = true) : 0 ≤ x ∧ x < (256 : Nat) := by
  have := bd_u8 h; omega
theorem isRow_cap {k : IntKind} {w : World} {a : Option Addr} {len cap : Nat} {zs : List Int} (h : IsRow k w a len cap zs) : len ≤ cap ∧ cap ≤ maxLen := by
  rcases h with ⟨rfl, rfl, rfl, rfl⟩ | ⟨x, rfl, hlc, hm, _⟩
  · exact ⟨Nat.le_refl _, by unfold maxLen; omega⟩
  · exact ⟨hlc, hm⟩
theorem choose_list {α : Type} {n : Nat} {P : Nat → α → Prop} (h : ∀ i, i < n → ∃ r, P i r) : ∃ l : List α, l.length = n ∧ ∀ i r, l[i]? = some r → P i r := by
  induction n with
  | zero => exact ⟨[], rfl, by simp⟩
  | succ n ih =>
    obtain ⟨l, hl, hp⟩ := ih (fun i hi => h i (by omega))
    obtain ⟨r, hr⟩ := h n (by omega)
    refine ⟨l ++ [r], by simp [hl], fun i r' hi => ?_⟩
    rw [List.getElem?_append] at hi
    split at hi
    · exact hp i r' hi
    · rename_i h1
      have h2 : i - l.length = 0 := by
        rcases Nat.eq_zero_or_pos (i - l.length) with h | h
        · exact h
        · rw [List.getElem?_eq_none (by simp; omega)] at hi; cases hi
      rw [h2] at hi
      simp at hi
      have h3 : i = n := by omega
      subst hi; rw [h3]; exact hr
/-- A new block whose cells are a row's. -/
theorem own_fresh (w : World) (E : TypeId) (s : Nat) (xs : List Value) (n : Nat) (hl : xs.length = n * s) (hm : n ≤ maxLen) : (w.alloc (.cells xs.toArray E)).ownsRow w.heap.size E s (.slice (some ⟨w.heap.size, 0, none⟩) n n) n xs :=
  ⟨hl, .inr ⟨w.heap.size, n, _, rfl, Nat.le_refl _, heap_alloc_new w _, Nat.le_refl _, hm, by simp [hl], by rw [← hl]; simp⟩⟩
end Go.Proofs.YtjpnfadmblmjbaaDoor
