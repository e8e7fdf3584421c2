/- Layer 7: the walk of 'XorRows'. -/
import Derived.Test.YtaagjedkojlbpaaDoorW19
namespace Go.Proofs.YtaagjedkojlbpaaDoor
open Go.RowKit
attribute [local go_sem ↓] Go.wp_at_zero Go.wp_at_succ

set_option maxHeartbeats 4000000 in
set_option maxRecDepth 100000 in
theorem xorRows_walk0 (ao : Option Addr) (ca : Nat) (l : List Nat) (y : Nat) (W : World) (hv : SlAt W (.slice ao l.length ca) (xvals l)) (hl : l.length ≤ 60) (hb : ∀ x ∈ l, x < 18446744073709551616) (hy : y < 18446744073709551616) (HT : BruTab W) :
    Calls Tryd.prog 7 #[.slice ao l.length ca, .int .u64 (y : Int)] W fun e w' => e = .returned (.bool true) ∧ Kept (fun _ => False) W w' := by
  have HAW := Lib.hid (awake7_any W HT)
  have HTT := Lib.hid HT
  have hv0 := Lib.hid hv
  have HBB := Lib.hid hb
  have HLL := Lib.hid hl
  have hlt := HT.lt
  have q60 : ¬ (60 : Int) < (l.length : Int) := by omega
  have q60b : decide (60 < l.length) = false := decide_eq_false (by omega)
  have HBN := Lib.hid bnew_any
  have HRN := Lib.hid xnewRow_any
  clear HT hv hb hl
  go_enter Tryd.func7, Tryd.ntmps7
  go_wp2_with fail
  refine HAW.out.mono ?_
  rintro e w0 ⟨rfl, k0⟩
  have K0 := Lib.hid k0
  clear k0
  go_wp2_with fail
  refine (HBN.out w0).mono ?_
  rintro e w1 ⟨rfl, hw1⟩
  have H0 := bnew_at W.heap.size w0 K0.out.size
  rw [← hw1] at H0
  have k1 : Kept (fun _ => False) w0 w1 := by rw [hw1]; exact (Kept.refl _ _).alloc _
  obtain ⟨p, hp⟩ : ∃ p, p = w0.heap.size := ⟨_, rfl⟩
  rw [← hp] at H0 ⊢
  clear hw1 hp
  go_wp2_with fail
  refine (HRN.out w1).mono ?_
  rintro e w2 ⟨rfl, hr, k2⟩
  have hs := k1.size
  obtain ⟨r, hr1⟩ : ∃ r, r = w1.heap.size := ⟨_, rfl⟩
  rw [← hr1] at hr ⊢
  have hk2 := (K0.out.trans k1).trans k2
  have k3 := (Kept.refl (fun _ => False) w2).alloc (.cells #[.slice none 0 0, .int .i64 0, .int .i64 0] 63)
  have hrx : RX W (w2.alloc (.cells #[.slice none 0 0, .int .i64 0, .int .i64 0] 63)) p r (.slice none 0 0) l 0 := WX.on (WX.mk (H0.keptF k2) hr (by have := K0.out.size; omega) hk2) k3
  have hst : StBox (w2.alloc (.cells #[.slice none 0 0, .int .i64 0, .int .i64 0] 63)) w2.heap.size (.slice none 0 0) 0 0 := heap_alloc_new w2 _
  have HXS := Lib.hid (show XS W (w2.alloc (.cells #[.slice none 0 0, .int .i64 0, .int .i64 0] 63)) p r w2.heap.size (.slice none 0 0) (.slice none 0 0) (.slice none 0 0) l 0 0 0 from ⟨hrx, hst, Mine.nil' _ (hk2.trans k3), Mine.nil' _ (hk2.trans k3), hk2.size⟩)
  obtain ⟨sq, hsq⟩ : ∃ sq, sq = w2.heap.size := ⟨_, rfl⟩
  rw [← hsq] at HXS
  have HSQ := Lib.hid hsq
  clear hr k1 k2 k3 H0 hr1 hs hrx hst hk2 hsq
  go_wp2
  rw [← HSQ.out]
  go_loopg [8, 9, 10, 11, 12] l.length (fun g s8 s9 s10 s11 s12 wr => ∃ i : Nat, i ≤ l.length ∧ g = l.length - i ∧ s9 = .int .i64 i ∧ ∃ v sv, XS W wr p r sq v sv s8 l i i i)
  case atStart => exact ⟨0, Nat.zero_le _, rfl, rfl, _, _, HXS.out⟩
  case round =>
    obtain ⟨i, hil, rfl, rfl, v, sv, hxs⟩ := hrel
    obtain ⟨a8, c8, e8⟩ := hxs.ma.slice
    rw [ints_length] at e8
    subst e8
    have HI := Lib.hid hxs
    clear hxs HXS
    by_cases hd : i < l.length
    · skip
      have hdi : (i : Int) < (l.length : Int) := by omega
      have i0 : (0 : Int) ≤ (i : Int) := by omega
      have HD := Lib.hid hd
      obtain ⟨g, off, rfl, _⟩ := (hv0.out.kept HI.out.rx.kept (fun _ _ x => x)).elem (xvals_get hd)
      have HCELL := Lib.hid fun w' (h : Kept (fun _ => False) W w') => (hv0.out.kept h (fun _ _ x => x)).elem (xvals_get hd)
      have hx := getN_lt HBB.out i
      have hlb := rowX_length HBB.out i
      have hlb1 := rowX_length HBB.out (i + 1)
      have hnb2 : rowX l (i + 1) = rowX l i ++ (nextP i (lastN l i) (winX l i).1 (winX l i).2 (l.getD i 0)).1 := rfl
      have hnw : winX l (i + 1) = (nextP i (lastN l i) (winX l i).1 (winX l i).2 (l.getD i 0)).2 := rfl
      have hok := winX_ok HBB.out i
      have hla := lastN_lt HBB.out i
      have htl := take_lastN l i (by omega)
      obtain ⟨sa, sc, esv⟩ := HI.out.sl.slice
      rw [xvals_length, htl.1] at esv
      subst esv
      have htn := take_snocU l i hd
      have HPX := Lib.hid fun w' (h : XS W w' p r sq v (.slice sa i sc) (.slice a8 (rowX l i).length c8) l i i i) => xrowPut_any W.heap.size p r v (rowX l i) i (lastN l i) (winX l i).1 (winX l i).2 (l.getD i 0) w' h.rx.bw h.rx.row hlt h.rx.kept.size (HTT.out.kept h.rx.kept) hok (by have := HLL.out; omega) hla hx (by have := HLL.out; omega)
      have HPU := Lib.hid fun w' (h : XS W w' p r sq v (.slice sa i sc) (.slice a8 (rowX l i).length c8) l i i i) w6 v' (h6 : XS W w6 p r sq v' (.slice sa i sc) (.slice a8 (rowX l i).length c8) l (i + 1) i i) w7 (k7 : Kept (fun _ => False) w6 w7) => rput_any (.slice sa i sc) (l.take i) (winX l i).1 (winX l i).2 (l.getD i 0) w7 (h6.sl.on k7).at_ (by have := HLL.out; rw [htl.1]; omega) (fun y hy => HBB.out y (List.mem_of_mem_take hy)) hx hok
      rw [htl.1, htl.2] at HPU
      have HXP := Lib.hid fun w' e (h : XS W w' p r sq v (.slice sa i sc) (.slice a8 (rowX l i).length c8) l i i i) w6 (ht : XPut w' W.heap.size p r v (rowX l i) i (lastN l i) (winX l i).1 (winX l i).2 (l.getD i 0) e w6) => h.xput rfl ht
      obtain ⟨x, hxe⟩ : ∃ x, x = l.getD i 0 := ⟨_, rfl⟩
      rw [← hxe] at hx hnb2 hnw HCELL HPX HPU HXP htn
      obtain ⟨P, hP⟩ : ∃ P, P = nextP i (lastN l i) (winX l i).1 (winX l i).2 x := ⟨_, rfl⟩
      rw [← hP] at hnb2 hnw HPU
      obtain ⟨bits, F, S⟩ := P
      simp only at hnb2 hnw HPU
      obtain ⟨f, hf⟩ : ∃ f, f = (winX l i).1 := ⟨_, rfl⟩
      obtain ⟨s, hs⟩ : ∃ s, s = (winX l i).2 := ⟨_, rfl⟩
      rw [← hf, ← hs] at hok HPU HPX HXP
      have HST := Lib.hid fun w' v' k (h : XS W w' p r sq v' (.slice sa i sc) (.slice a8 (rowX l i).length c8) l k i i) => h.st.c
      rw [← hf, ← hs] at HST
      have HC2 := Lib.hid fun w' (h : Kept (fun _ => False) W w') => show w'.cell? ⟨g, off + i, none⟩ = some (.int .u64 (x : Int)) from by
        obtain ⟨_, _, e', b⟩ := HCELL.out w' h
        injection e' with e'; injection e' with e1 e2; subst e1; subst e2
        exact b
      have HNB2 := Lib.hid hnb2
      have HTN := Lib.hid htn
      have HNW := Lib.hid hnw
      have HLI := Lib.hid (show (rowX l i).length + bits.length ≤ 1000000000000 by have h3 := hlb1; rw [hnb2, List.length_append] at h3; omega)
      have HROW := Lib.hid fun w' (h : XS W w' p r sq v (.slice sa i sc) (.slice a8 (rowX l i).length c8) l i i i) => show XRow w' r i (lastN l i) f s from by rw [hf, hs]; exact h.rx.row
      have HPY := Lib.hid fun w' qq q' (B4 : BwAt w' W.heap.size qq (.slice none 0 0) []) (hr4 : XRow w' q' i (lastN l i) f s) (k : Kept (fun _ => False) W w') => xrowPut_any W.heap.size qq q' (.slice none 0 0) [] i (lastN l i) f s y w' B4 hr4 hlt k.size (HTT.out.kept k) hok (by have := HLL.out; omega) hla hy (by simp)
      have HI60 := Lib.hid hil
      have i1 : IntKind.i64.wrap ((i : Int) + 1) = ((i + 1 : Nat) : Int) := by have := HLL.out; rw [IntWalk.i64_in _ ⟨by omega, by omega⟩]; omega
      obtain ⟨LA, hLA⟩ : ∃ LA, LA = lastN l i := ⟨_, rfl⟩
      rw [← hLA] at HROW HPY
      obtain ⟨N8, hN8⟩ : ∃ N, N = (rowX l i).length := ⟨_, rfl⟩
      rw [← hN8] at HPX HPU HXP HST HROW HI ⊢
      clear hd hxe hil hnb2 hnw hok hla htl htn hP hf hs hlb hlb1 hx hLA hN8 HCELL
      go_wp2_with fail
      refine (xclone_any r _ _ _ _ wr (HROW.out _ HI.out)).mono ?_
      rintro e w3 ⟨rfl, hrq, k3⟩
      obtain ⟨q, hqe⟩ : ∃ q, q = wr.heap.size := ⟨_, rfl⟩
      rw [← hqe] at hrq ⊢
      have HQ := Lib.hid (show wr.heap.size ≤ q by omega)
      clear hqe
      have H3 := Lib.hid (HI.out.on k3)
      go_wp2_with fail
      refine (HBN.out w3).mono ?_
      rintro e w4 ⟨rfl, hw4⟩
      have k4 : Kept (fun _ => False) w3 w4 := by rw [hw4]; exact (Kept.refl _ _).alloc _
      have B4 := bnew_at W.heap.size w3 (Nat.le_trans HI.out.rx.kept.size k3.size)
      rw [← hw4] at B4
      have h34 := k3.size
      have K4 := Lib.hid (k3.trans k4)
      have H4 := Lib.hid (H3.out.on k4)
      have HPYY := Lib.hid (HPY.out w4 _ q B4 (hrq.kept k4 (fun x => x)) H4.out.rx.kept)
      clear k3 k4 hw4 B4 hrq
      go_wp2_with fail
      refine HPYY.out.mono ?_
      rintro e w5 ⟨rfl, hr5, v5, _, _, k5⟩
      have k45 : Kept (fun _ => False) wr w5 := K4.out.newer k5 (by
        rintro j (rfl | h | rfl)
        · exact h34
        · cases h
        · exact HQ.out)
      have H5 := Lib.hid (HI.out.on k45)
      have c5 := HC2.out _ H5.out.rx.kept
      have HR5 := Lib.hid hr5
      have hqr : q ≠ r := by have := HI.out.rx.row.lt; have := HQ.out; omega
      have hqn := H5.out.rx.bw.apartT hr5 (by decide) (by decide)
      have HQN := Lib.hid (And.intro hqr hqn)
      clear k45 k5 hr5 hqr hqn
      go_wp2_with fail
      refine (HPX.out _ H5.out).mono ?_
      intro e w6 h6
      have hy6 := HR5.out.kept (by obtain ⟨_, _, _, _, _, k6⟩ := h6; exact k6) (fun e => by rcases e with e | e | e; exact HQN.out.2.1 e; exact HQN.out.2.2 e; exact HQN.out.1 e)
      obtain ⟨rfl, v6, hx6⟩ := HXP.out _ _ H5.out _ h6
      have HX6 := Lib.hid hx6
      have HY6 := Lib.hid hy6
      have HPUT := Lib.hid fun w7 (k7 : Kept (fun _ => False) w6 w7) => HPU.out _ H5.out w6 v6 hx6 w7 k7
      unfold stV RPut at HPUT
      rw [HTN.out] at HPUT
      have HDD := Lib.hid fun w' (k : Kept (fun _ => False) w6 w') => And.intro (HST.out _ _ _ (hx6.on k)) (HC2.out _ (hx6.rx.kept.trans k))
      clear hy6 h6 hx6 c5 HPX HPU HXP HPY HPYY
      go_wp2
      refine AnyBut.start (S := fun w' => (w'.cell? ⟨sq, 0, none⟩ = some (.slice sa i sc) ∧ w'.cell? ⟨sq, 1, none⟩ = some (.int .i64 (f : Int)) ∧ w'.cell? ⟨sq, 2, none⟩ = some (.int .i64 (s : Int))) ∧ w'.cell? ⟨g, off + i, none⟩ = some (.int .u64 (x : Int))) (k := 11) (by kernel_rfl) ?_
      obtain ⟨wd, hwd⟩ : ∃ w', w' = w6.drew := ⟨_, rfl⟩
      have KD := Lib.hid (Kept.refl (fun _ => False) w6).drew
      rw [← hwd] at KD ⊢
      have HS0 := Lib.hid (HDD.out _ KD.out)
      clear hwd
      refine AnyBut.take (i := 0) (v := ?v1) rfl (by kernel_rfl) (by kernel_rfl) (by kernel_rfl) (by kernel_rfl) (fun _ _ _ h => h) (HS0.out) (Or.inl ⟨by kernel_rfl, ?hy1⟩) ?r1
      case hy1 =>
        intro w hSw
        try dsimp only at hSw
        go_simp
        try with_reducible rfl
      try simp only [Act.put, List.getElem_toArray, List.getElem_cons_zero, List.setIfInBounds_toArray, List.set_cons_zero, List.set_cons_succ]
      refine AnyBut.take (i := 1) (v := ?v2) rfl (by kernel_rfl) (by kernel_rfl) (by kernel_rfl) (by kernel_rfl) (fun _ _ _ h => h) (HS0.out) (Or.inl ⟨by kernel_rfl, ?hy2⟩) ?r2
      case hy2 =>
        intro w hSw
        try dsimp only at hSw
        go_simp
        try with_reducible rfl
      try simp only [Act.put, List.getElem_toArray, List.getElem_cons_succ, List.getElem_cons_zero, List.setIfInBounds_toArray, List.set_cons_zero, List.set_cons_succ]
      refine AnyBut.take (i := 2) (v := ?v3) rfl (by kernel_rfl) (by kernel_rfl) (by kernel_rfl) (by kernel_rfl) (fun _ _ _ h => h) (HS0.out) (Or.inl ⟨by kernel_rfl, ?hy3⟩) ?r3
      case hy3 =>
        intro w hSw
        try dsimp only at hSw
        go_simp
        try with_reducible rfl
      try simp only [Act.put, List.getElem_toArray, List.getElem_cons_succ, List.getElem_cons_zero, List.setIfInBounds_toArray, List.set_cons_zero, List.set_cons_succ]
      refine AnyBut.take (i := 3) (v := ?v4) rfl (by kernel_rfl) (by kernel_rfl) (by kernel_rfl) (by kernel_rfl) (fun _ _ _ h => h) (HS0.out) (Or.inl ⟨by kernel_rfl, ?hy4⟩) ?r4
      case hy4 =>
        intro w hSw
        try dsimp only at hSw
        go_simp
        try with_reducible rfl
      try simp only [Act.put, List.getElem_toArray, List.getElem_cons_succ, List.getElem_cons_zero, List.setIfInBounds_toArray, List.set_cons_zero, List.set_cons_succ]
      refine AnyBut.take (i := 4) (v := ?v5) rfl (by kernel_rfl) (by kernel_rfl) (by kernel_rfl) (by kernel_rfl) (fun _ _ _ h => h) (HS0.out) (Or.inl ⟨by kernel_rfl, ?hy5⟩) ?r5
      case hy5 =>
        intro w hSw
        try dsimp only at hSw
        go_simp
        try with_reducible rfl
      try simp only [Act.put, List.getElem_toArray, List.getElem_cons_succ, List.getElem_cons_zero, List.setIfInBounds_toArray, List.set_cons_zero, List.set_cons_succ]
      refine AnyBut.two (i := 5) (j := 9) (by kernel_rfl) rfl rfl (fun K hK => ?_) (fun K hK => ?_)
      · go_simp
        go_wp2_with fail
        refine (HPUT.out _ KD.out).mono ?_
        rintro e w7 ⟨vb, v7, rfl, mb, ml⟩
        obtain ⟨ba, bc, be⟩ := mb.slice
        obtain ⟨bn, hbn⟩ : ∃ n, vb = Value.slice ba n bc := ⟨_, be⟩
        clear be
        subst hbn
        obtain ⟨la, lc, le⟩ := ml.slice
        obtain ⟨ln, hln⟩ : ∃ n, v7 = Value.slice la n lc := ⟨_, le⟩
        clear le
        subst hln
        have HMB := Lib.hid mb
        have HML := Lib.hid ml
        have K7 := Lib.hid (KD.out.trans mb.kept)
        clear mb ml
        have HS7 := Lib.hid (HDD.out _ K7.out)
        go_wp2
        refine hK.out _ _ (HS7.out) ?_
        clear hK K
        try simp only [Act.put, List.getElem_toArray, List.getElem_cons_succ, List.getElem_cons_zero, List.setIfInBounds_toArray, List.set_cons_zero, List.set_cons_succ]
        refine AnyBut.take (i := 6) (v := ?v6) rfl (by kernel_rfl) (by kernel_rfl) (by kernel_rfl) (by kernel_rfl) (fun _ _ _ h => h) (HS7.out) (Or.inl ⟨by kernel_rfl, ?hy6⟩) ?r6
        case hy6 =>
          intro w hSw
          try dsimp only at hSw
          go_simp
          try with_reducible rfl
        try simp only [Act.put, List.getElem_toArray, List.getElem_cons_succ, List.getElem_cons_zero, List.setIfInBounds_toArray, List.set_cons_zero, List.set_cons_succ]
        refine AnyBut.take (i := 7) (v := ?v7) rfl (by kernel_rfl) (by kernel_rfl) (by kernel_rfl) (by kernel_rfl) (fun _ _ _ h => h) (HS7.out) (Or.inl ⟨by kernel_rfl, ?hy7⟩) ?r7
        case hy7 =>
          intro w hSw
          try dsimp only at hSw
          go_simp
          try with_reducible rfl
        try simp only [Act.put, List.getElem_toArray, List.getElem_cons_succ, List.getElem_cons_zero, List.setIfInBounds_toArray, List.set_cons_zero, List.set_cons_succ]
        refine AnyBut.take (i := 8) (v := ?v8) rfl (by kernel_rfl) (by kernel_rfl) (by kernel_rfl) (by kernel_rfl) (fun _ _ _ h => h) (HS7.out) (Or.inl ⟨by kernel_rfl, ?hy8⟩) ?r8
        case hy8 =>
          intro w hSw
          try dsimp only at hSw
          go_simp
          try with_reducible rfl
        try simp only [Act.put, List.getElem_toArray, List.getElem_cons_succ, List.getElem_cons_zero, List.setIfInBounds_toArray, List.set_cons_zero, List.set_cons_succ]
        refine AnyBut.one (i := 9) (by kernel_rfl) rfl (fun K hK => ?_)
        go_simp
        have HS9 := Lib.hid (HDD.out _ (K7.out.alloc (.cells #[.slice none 0 0, .int .i64 0, .int .i64 0] 63)))
        have HNB := Lib.hid (show StBox (w7.alloc (.cells #[.slice none 0 0, .int .i64 0, .int .i64 0] 63)) w7.heap.size (.slice none 0 0) 0 0 from heap_alloc_new w7 _)
        have KL := Lib.hid (K7.out.alloc (.cells #[.slice none 0 0, .int .i64 0, .int .i64 0] 63))
        have HMB2 := Lib.hid ((HMB.out.down KD.out).on ((Kept.refl (fun _ => False) w7).alloc (.cells #[.slice none 0 0, .int .i64 0, .int .i64 0] 63)))
        have HML2 := Lib.hid ((HML.out.down KD.out).on ((Kept.refl (fun _ => False) w7).alloc (.cells #[.slice none 0 0, .int .i64 0, .int .i64 0] 63)))
        have HNQ := Lib.hid (show w6.heap.size ≤ w7.heap.size from K7.out.size)
        obtain ⟨nq, hnq⟩ : ∃ n, n = w7.heap.size := ⟨_, rfl⟩
        obtain ⟨w8, hw8⟩ : ∃ w', w' = w7.alloc (.cells #[.slice none 0 0, .int .i64 0, .int .i64 0] 63) := ⟨_, rfl⟩
        rw [← hw8] at HS9 HNB KL HMB2 HML2 ⊢
        rw [← hnq] at HNB HNQ ⊢
        clear hnq hw8
        refine hK.out _ _ (HS9.out) ?_
        clear hK K
        try simp only [Act.put, List.getElem_toArray, List.getElem_cons_succ, List.getElem_cons_zero, List.setIfInBounds_toArray, List.set_cons_zero, List.set_cons_succ]
        refine AnyBut.take (i := 10) (v := ?v9) rfl (by kernel_rfl) (by kernel_rfl) (by kernel_rfl) (by kernel_rfl) (fun _ _ _ h => h) (HS9.out) (Or.inl ⟨by kernel_rfl, ?hy9⟩) ?r9
        case hy9 =>
          intro w hSw
          try dsimp only at hSw
          go_simp
          try with_reducible rfl
        try simp only [Act.put, List.getElem_toArray, List.getElem_cons_succ, List.getElem_cons_zero, List.setIfInBounds_toArray, List.set_cons_zero, List.set_cons_succ]
        refine AnyBut.last (by kernel_rfl) rfl (by kernel_rfl) (fun K hK => ?_)
        obtain ⟨x0, x1, x2⟩ := HNB.out.c
        have y0 := HNB.out.f 0
        have y1 := HNB.out.f 1
        have y2 := HNB.out.f 2
        go_simp
        go_wp2
        refine hK.out _ _ ?_
        clear hK K
        try simp only [Act.put, List.getElem_toArray, List.getElem_cons_succ, List.getElem_cons_zero, List.setIfInBounds_toArray, List.set_cons_zero, List.set_cons_succ]
        obtain ⟨w9, hw9⟩ : ∃ w', w' = set3 w8 nq (.slice la ln lc) (.int .i64 (F : Int)) (.int .i64 (S : Int)) := ⟨_, rfl⟩
        have k9 := set3_kept w8 nq (.slice la ln lc) (.int .i64 (F : Int)) (.int .i64 (S : Int))
        have n9 := HNB.out.set (.slice la ln lc) F S
        rw [← hw9] at k9 n9
        have K9 := Lib.hid (KL.out.step k9 (fun j hj e => by have := HNQ.out; omega))
        have MB9 := Lib.hid ((HMB2.out.down HX6.out.rx.kept).keptS k9 (fun k e x => ownT HMB2.out.own HNB.out (by decide) (by rw [e, x])) (fun k e => by have := HNQ.out; have := HX6.out.rx.kept.size; omega))
        have ML9 := Lib.hid ((HML2.out.down HX6.out.rx.kept).keptS k9 (fun k e x => ownT HML2.out.own HNB.out (by decide) (by rw [e, x])) (fun k e => by have := HNQ.out; have := HX6.out.rx.kept.size; omega))
        have X9 := Lib.hid (HX6.out.on K9.out)
        have HY9 := Lib.hid (HY6.out.kept K9.out (fun x => x))
        unfold set3 at hw9
        rw [← hw9]
        have N9 := Lib.hid n9
        clear hw9 k9 n9 HNB KL HMB2 HML2 x0 x1 x2 y0 y1 y2
        obtain ⟨x0, x1, x2⟩ := N9.out.c
        obtain ⟨u0, u1, u2⟩ := X9.out.st.c
        have g0 := X9.out.st.f 0
        have g1 := X9.out.st.f 1
        have g2 := X9.out.st.f 2
        go_upto_region 17 with fail
        have x10 := X9.out.setSt (.slice la ln lc) F S ML9.out HNW.out
        have k10 := set3_kept w9 sq (.slice la ln lc) (.int .i64 (F : Int)) (.int .i64 (S : Int))
        have y10 := HY9.out.kept k10 (fun e => X9.out.stRow HY9.out e)
        have m10 := MB9.out.keptS k10 (fun k e x => ownT MB9.out.own X9.out.st (by decide) (by rw [e, x])) (fun k e => by have := X9.out.sb; omega)
        obtain ⟨w10, hw10⟩ : ∃ w', w' = set3 w9 sq (.slice la ln lc) (.int .i64 (F : Int)) (.int .i64 (S : Int)) := ⟨_, rfl⟩
        rw [← hw10] at x10 y10 m10
        unfold set3 at hw10
        rw [← hw10]
        have X10 := Lib.hid x10
        have HY10 := Lib.hid y10
        have MB10 := Lib.hid m10
        clear hw10 x10 k10 y10 m10 x0 x1 x2 u0 u1 u2 g0 g1 g2
        go_wp2_with (at_builtin; refine wpList_mineI2 rfl (.tmp 55) (.tmp 56) rfl W _ _ rfl X10.out.ma _ _ rfl (MB10.out.at_.src (P := Tryd.prog) Tryd.underlying26 (ints_one _)) (by have := HLI.out; simp only [ints_length]; omega) ?_; intro va6 w11 hm6 hk6 _; have X11 := Lib.hid (X10.out.addMa hm6 hk6 HNB2.out); have HY11 := Lib.hid (HY10.out.kept hk6 (ownT X10.out.ma.own HY10.out (by decide))); obtain ⟨a6, c6, e6⟩ := hm6.slice; obtain ⟨n6, hn6⟩ : ∃ n, va6 = Value.slice a6 n c6 ∧ n = (rowX l (i + 1)).length := ⟨_, e6, by rw [HNB2.out]; simp only [List.length_append, ints_length]⟩; obtain ⟨e7, hn6⟩ := hn6; clear e6; subst e7; have HN6 := Lib.hid hn6; clear hm6 hk6 hn6; have HL1 := Lib.hid (bwlen_any _ _ _ _ _ X11.out.rx.bw); rw [← HN6.out] at HL1; have HLQ := Lib.hid (xrowLen_any q _ _ _ _ _ HY11.out); have HLR := Lib.hid (xrowLen_any r _ _ _ _ _ X11.out.rx.row))
        refine HL1.out.mono ?_
        rintro e w' ⟨rfl, rfl⟩
        go_wp2_with (first
          | (go_at_call_of 39 q; refine HLQ.out.mono ?_; rintro e w' ⟨rfl, rfl⟩)
          | (go_at_call_of 39 r; refine HLR.out.mono ?_; rintro e w' ⟨rfl, rfl⟩))
        go_roundg (l.length - (i + 1))
        case measure => have := HD.out; omega
        case rel => exact ⟨i + 1, HD.out, rfl, by go_num, _, _, X11.out⟩
      · go_simp
        have HS9 := Lib.hid (HDD.out _ (KD.out.alloc (.cells #[.slice none 0 0, .int .i64 0, .int .i64 0] 63)))
        have HNB0 := Lib.hid (show StBox (wd.alloc (.cells #[.slice none 0 0, .int .i64 0, .int .i64 0] 63)) wd.heap.size (.slice none 0 0) 0 0 from heap_alloc_new wd _)
        have KE := Lib.hid (KD.out.alloc (.cells #[.slice none 0 0, .int .i64 0, .int .i64 0] 63))
        have HNQ := Lib.hid (show w6.heap.size ≤ wd.heap.size from KD.out.size)
        obtain ⟨nq, hnq⟩ : ∃ n, n = wd.heap.size := ⟨_, rfl⟩
        obtain ⟨we, hwe⟩ : ∃ w', w' = wd.alloc (.cells #[.slice none 0 0, .int .i64 0, .int .i64 0] 63) := ⟨_, rfl⟩
        rw [← hwe] at HS9 HNB0 KE ⊢
        rw [← hnq] at HNB0 HNQ ⊢
        clear hnq hwe
        refine hK.out _ _ (HS9.out) ?_
        clear hK K
        try simp only [Act.put, List.getElem_toArray, List.getElem_cons_succ, List.getElem_cons_zero, List.setIfInBounds_toArray, List.set_cons_zero, List.set_cons_succ]
        refine AnyBut.one (i := 5) (by kernel_rfl) rfl (fun K hK => ?_)
        go_simp
        go_wp2_with fail
        refine (HPUT.out _ KE.out).mono ?_
        rintro e w7 ⟨vb, v7, rfl, mb, ml⟩
        obtain ⟨ba, bc, be⟩ := mb.slice
        obtain ⟨bn, hbn⟩ : ∃ n, vb = Value.slice ba n bc := ⟨_, be⟩
        clear be
        subst hbn
        obtain ⟨la, lc, le⟩ := ml.slice
        obtain ⟨ln, hln⟩ : ∃ n, v7 = Value.slice la n lc := ⟨_, le⟩
        clear le
        subst hln
        have HMB := Lib.hid mb
        have HML := Lib.hid ml
        obtain ⟨w8, hw8⟩ : ∃ w', w' = w7 := ⟨_, rfl⟩
        have HNB := Lib.hid (HNB0.out.same mb.kept (fun x => x))
        have KL := Lib.hid (KE.out.trans mb.kept)
        have HMB2 := Lib.hid (HMB.out.down KE.out)
        have HML2 := Lib.hid (HML.out.down KE.out)
        rw [← hw8] at HNB KL HMB2 HML2 ⊢
        clear mb ml hw8
        have HS7 := Lib.hid (HDD.out _ KL.out)
        go_wp2
        refine hK.out _ _ (HS7.out) ?_
        clear hK K
        try simp only [Act.put, List.getElem_toArray, List.getElem_cons_succ, List.getElem_cons_zero, List.setIfInBounds_toArray, List.set_cons_zero, List.set_cons_succ]
        refine AnyBut.take (i := 6) (v := ?v10) rfl (by kernel_rfl) (by kernel_rfl) (by kernel_rfl) (by kernel_rfl) (fun _ _ _ h => h) (HS7.out) (Or.inl ⟨by kernel_rfl, ?hy10⟩) ?r10
        case hy10 =>
          intro w hSw
          try dsimp only at hSw
          go_simp
          try with_reducible rfl
        try simp only [Act.put, List.getElem_toArray, List.getElem_cons_succ, List.getElem_cons_zero, List.setIfInBounds_toArray, List.set_cons_zero, List.set_cons_succ]
        refine AnyBut.take (i := 7) (v := ?v11) rfl (by kernel_rfl) (by kernel_rfl) (by kernel_rfl) (by kernel_rfl) (fun _ _ _ h => h) (HS7.out) (Or.inl ⟨by kernel_rfl, ?hy11⟩) ?r11
        case hy11 =>
          intro w hSw
          try dsimp only at hSw
          go_simp
          try with_reducible rfl
        try simp only [Act.put, List.getElem_toArray, List.getElem_cons_succ, List.getElem_cons_zero, List.setIfInBounds_toArray, List.set_cons_zero, List.set_cons_succ]
        refine AnyBut.take (i := 8) (v := ?v12) rfl (by kernel_rfl) (by kernel_rfl) (by kernel_rfl) (by kernel_rfl) (fun _ _ _ h => h) (HS7.out) (Or.inl ⟨by kernel_rfl, ?hy12⟩) ?r12
        case hy12 =>
          intro w hSw
          try dsimp only at hSw
          go_simp
          try with_reducible rfl
        try simp only [Act.put, List.getElem_toArray, List.getElem_cons_succ, List.getElem_cons_zero, List.setIfInBounds_toArray, List.set_cons_zero, List.set_cons_succ]
        refine AnyBut.take (i := 10) (v := ?v13) rfl (by kernel_rfl) (by kernel_rfl) (by kernel_rfl) (by kernel_rfl) (fun _ _ _ h => h) (HS7.out) (Or.inl ⟨by kernel_rfl, ?hy13⟩) ?r13
        case hy13 =>
          intro w hSw
          try dsimp only at hSw
          go_simp
          try with_reducible rfl
        try simp only [Act.put, List.getElem_toArray, List.getElem_cons_succ, List.getElem_cons_zero, List.setIfInBounds_toArray, List.set_cons_zero, List.set_cons_succ]
        refine AnyBut.last (by kernel_rfl) rfl (by kernel_rfl) (fun K hK => ?_)
        obtain ⟨x0, x1, x2⟩ := HNB.out.c
        have y0 := HNB.out.f 0
        have y1 := HNB.out.f 1
        have y2 := HNB.out.f 2
        go_simp
        go_wp2
        refine hK.out _ _ ?_
        clear hK K
        try simp only [Act.put, List.getElem_toArray, List.getElem_cons_succ, List.getElem_cons_zero, List.setIfInBounds_toArray, List.set_cons_zero, List.set_cons_succ]
        obtain ⟨w9, hw9⟩ : ∃ w', w' = set3 w8 nq (.slice la ln lc) (.int .i64 (F : Int)) (.int .i64 (S : Int)) := ⟨_, rfl⟩
        have k9 := set3_kept w8 nq (.slice la ln lc) (.int .i64 (F : Int)) (.int .i64 (S : Int))
        have n9 := HNB.out.set (.slice la ln lc) F S
        rw [← hw9] at k9 n9
        have K9 := Lib.hid (KL.out.step k9 (fun j hj e => by have := HNQ.out; omega))
        have MB9 := Lib.hid ((HMB2.out.down HX6.out.rx.kept).keptS k9 (fun k e x => ownT HMB2.out.own HNB.out (by decide) (by rw [e, x])) (fun k e => by have := HNQ.out; have := HX6.out.rx.kept.size; omega))
        have ML9 := Lib.hid ((HML2.out.down HX6.out.rx.kept).keptS k9 (fun k e x => ownT HML2.out.own HNB.out (by decide) (by rw [e, x])) (fun k e => by have := HNQ.out; have := HX6.out.rx.kept.size; omega))
        have X9 := Lib.hid (HX6.out.on K9.out)
        have HY9 := Lib.hid (HY6.out.kept K9.out (fun x => x))
        unfold set3 at hw9
        rw [← hw9]
        have N9 := Lib.hid n9
        clear hw9 k9 n9 HNB KL HMB2 HML2 x0 x1 x2 y0 y1 y2
        obtain ⟨x0, x1, x2⟩ := N9.out.c
        obtain ⟨u0, u1, u2⟩ := X9.out.st.c
        have g0 := X9.out.st.f 0
        have g1 := X9.out.st.f 1
        have g2 := X9.out.st.f 2
        go_upto_region 17 with fail
        have x10 := X9.out.setSt (.slice la ln lc) F S ML9.out HNW.out
        have k10 := set3_kept w9 sq (.slice la ln lc) (.int .i64 (F : Int)) (.int .i64 (S : Int))
        have y10 := HY9.out.kept k10 (fun e => X9.out.stRow HY9.out e)
        have m10 := MB9.out.keptS k10 (fun k e x => ownT MB9.out.own X9.out.st (by decide) (by rw [e, x])) (fun k e => by have := X9.out.sb; omega)
        obtain ⟨w10, hw10⟩ : ∃ w', w' = set3 w9 sq (.slice la ln lc) (.int .i64 (F : Int)) (.int .i64 (S : Int)) := ⟨_, rfl⟩
        rw [← hw10] at x10 y10 m10
        unfold set3 at hw10
        rw [← hw10]
        have X10 := Lib.hid x10
        have HY10 := Lib.hid y10
        have MB10 := Lib.hid m10
        clear hw10 x10 k10 y10 m10 x0 x1 x2 u0 u1 u2 g0 g1 g2
        go_wp2_with (at_builtin; refine wpList_mineI2 rfl (.tmp 55) (.tmp 56) rfl W _ _ rfl X10.out.ma _ _ rfl (MB10.out.at_.src (P := Tryd.prog) Tryd.underlying26 (ints_one _)) (by have := HLI.out; simp only [ints_length]; omega) ?_; intro va6 w11 hm6 hk6 _; have X11 := Lib.hid (X10.out.addMa hm6 hk6 HNB2.out); have HY11 := Lib.hid (HY10.out.kept hk6 (ownT X10.out.ma.own HY10.out (by decide))); obtain ⟨a6, c6, e6⟩ := hm6.slice; obtain ⟨n6, hn6⟩ : ∃ n, va6 = Value.slice a6 n c6 ∧ n = (rowX l (i + 1)).length := ⟨_, e6, by rw [HNB2.out]; simp only [List.length_append, ints_length]⟩; obtain ⟨e7, hn6⟩ := hn6; clear e6; subst e7; have HN6 := Lib.hid hn6; clear hm6 hk6 hn6; have HL1 := Lib.hid (bwlen_any _ _ _ _ _ X11.out.rx.bw); rw [← HN6.out] at HL1; have HLQ := Lib.hid (xrowLen_any q _ _ _ _ _ HY11.out); have HLR := Lib.hid (xrowLen_any r _ _ _ _ _ X11.out.rx.row))
        refine HL1.out.mono ?_
        rintro e w' ⟨rfl, rfl⟩
        go_wp2_with (first
          | (go_at_call_of 39 q; refine HLQ.out.mono ?_; rintro e w' ⟨rfl, rfl⟩)
          | (go_at_call_of 39 r; refine HLR.out.mono ?_; rintro e w' ⟨rfl, rfl⟩))
        go_roundg (l.length - (i + 1))
        case measure => have := HD.out; omega
        case rel => exact ⟨i + 1, HD.out, rfl, by go_num, _, _, X11.out⟩
    · obtain rfl : i = l.length := by omega
      have hlb := rowX_length HBB.out l.length
      have HNXT := Lib.hid fun i h => rowX_next l i l.length h HBB.out
      have HLE := Lib.hid fun i h => rowX_le l i l.length h
      have HCO := Lib.hid fun w' (h : Kept (fun _ => False) W w') => xcost_any _ l w' (hv0.out.kept h (fun _ _ x => x)) (by have := HLL.out; omega) HBB.out (HTT.out.kept h)
      have hbw := HI.out.rx.bw
      have hma := HI.out.ma
      obtain ⟨bs, hbs⟩ : ∃ bs, bs = rowX l l.length := ⟨_, rfl⟩
      rw [← hbs] at hlb HNXT HLE HCO hbw hma ⊢
      have HB0 := Lib.hid hbs
      have HBW := Lib.hid hbw
      have HMA := Lib.hid hma
      have hlb2 : bs.length ≤ 4620 := by have := HLL.out; omega
      have HL1 := Lib.hid fun w' (h : Kept (fun _ => False) wr w') => bwlen_any _ _ _ _ w' (hbw.keptF h)
      have HB1 := Lib.hid fun w' (h : Kept (fun _ => False) wr w') => bytesStr _ w' _ _ _ (hbw.keptF h) (by omega)
      have HR1 := Lib.hid fun w' (h : Kept (fun _ => False) wr w') => refBytesStrX _ bs w' (hma.on h).at_ (by omega)
      have HB2 := Lib.hid fun w' (h : Kept (fun _ => False) wr w') => bwbytes_any _ _ _ _ w' (hbw.keptF h) (by omega)
      have hnb := packB_length bs
      have HOP := Lib.hid fun w' v (h : SlAt w' v (bys (packB bs))) => bopen_yes v (packB bs) bs.length w' h (by omega) (packB_lt bs) (openE_packedX bs)
      rw [bitsOf_packBX] at HOP
      obtain ⟨S1, hS1⟩ : ∃ S, S = strN (packB bs) := ⟨_, rfl⟩
      rw [← hS1] at HB1 HR1
      obtain ⟨n, hn⟩ : ∃ n, n = bs.length := ⟨_, rfl⟩
      have HN := Lib.hid hn
      rw [← hn] at HL1 HOP HCO HR1 hlb2 ⊢
      have e1 : ((n : Int) != (n : Int)) = false := by simp
      have HLB := Lib.hid hlb2
      have HKI := Lib.hid HI.out.rx.kept
      have Krefl := Kept.refl (fun _ => False) wr
      clear hbw hma hlb hlb2 hnb hS1 hn hbs HI hd hil
      go_upto_region 20 with fail
      go_cut [90] (fun s90 wc => s90 = .bool false ∧ Kept (fun _ => False) wr wc)
      case first =>
        have kd : Kept (fun _ => False) wr wr.drew := (Kept.refl _ wr).drew
        go_region_with (first
          | (go_at_call 18; refine (HR1.out _ (by assumption)).mono ?_; rintro e w7 ⟨vc, rfl, hcw, k7⟩; have kc7 := Kept.trans (show Kept (fun _ => False) wr _ from by assumption) k7; have k77 := Kept.refl (fun _ => False) w7)
          | (go_at_call 17; refine (HB1.out _ (by assumption)).mono ?_; rintro e w6 ⟨vb, rfl, hcv, k6⟩; have kc := Kept.trans (show Kept (fun _ => False) wr _ from by assumption) k6; have k66 := Kept.refl (fun _ => False) w6)
          | (go_at_call 40; refine (HCO.out _ (HKI.out.trans (by assumption))).mono ?_; rintro e w5 ⟨rfl, k5⟩; have kc5 := Kept.trans (show Kept (fun _ => False) wr _ from by assumption) k5)
          | fail)
        all_goals
          go_wp2
          go_meet
          case rel => exact ⟨rfl, by assumption⟩
      case rest =>
        obtain ⟨rfl, kc⟩ := hcut
        have HC0 := Lib.hid kc
        clear kc
        go_wp2_with (first
          | (go_at_call 16; refine (HL1.out _ (HC0.out.trans k8)).mono ?_; rintro e w' ⟨rfl, rfl⟩)
          | (go_at_call 17; refine (HB2.out _ HC0.out).mono ?_; rintro e w8 ⟨vb8, rfl, ho8, k8⟩; have HO8 := Lib.hid (SlAt.ofOwn ho8); clear ho8)
          | (go_at_call 19; refine (HOP.out _ _ HO8.out).mono ?_; rintro e w9 ⟨pr, rv, rfl, hr9, k9⟩; have HR9 := Lib.hid hr9; have K9 := Lib.hid (Kept.trans (HC0.out.trans k8) k9); clear hr9 k9)
          | (go_at_call 35; refine (HRN.out _).mono ?_; rintro e w10 ⟨rfl, hx10, k10⟩; have HX10 := Lib.hid hx10; have K10 := Lib.hid k10; clear hx10 k10))
        obtain ⟨r2, hr2⟩ : ∃ r2, r2 = w9.heap.size := ⟨_, rfl⟩
        have hW9 : Kept (fun _ => False) W w9 := HKI.out.trans K9.out
        have HRW0 : RRX W w10 pr r2 rv bs (rowX l 0).length 0 (lastN l 0) (winX l 0).1 (winX l 0).2 := by
          refine ⟨(HR9.out.keptF K10.out).downX ?_, by rw [hr2]; exact HX10.out, by rw [hr2]; exact hW9.size, hW9.trans K10.out⟩
          exact ((HKI.out.trans HC0.out).trans k8).size
        have HRW0 := Lib.hid HRW0
        rw [← hr2]
        clear hr2 hW9 k8 HX10 K10 HR9 K9
        go_loopg [15, 16, 17] l.length (fun g s15 s16 s17 wr => ∃ i : Nat, i ≤ l.length ∧ g = l.length - i ∧ s15 = .int .i64 i ∧ RRX W wr pr r2 rv bs (rowX l i).length i (lastN l i) (winX l i).1 (winX l i).2)
        case atStart => exact ⟨0, Nat.zero_le _, rfl, rfl, HRW0.out⟩
        case round =>
          obtain ⟨i, hil, rfl, rfl, hrr⟩ := hrel
          have HI := Lib.hid hrr
          clear hrr HRW0
          by_cases hd : i < l.length
          · have hdi : (i : Int) < (l.length : Int) := by omega
            have i0 : (0 : Int) ≤ (i : Int) := by omega
            have HD := Lib.hid hd
            obtain ⟨g, off, rfl, _⟩ := (hv0.out.kept HI.out.kept (fun _ _ x => x)).elem (xvals_get hd)
            have HCELL := Lib.hid fun w' (h : Kept (fun _ => False) W w') => (hv0.out.kept h (fun _ _ x => x)).elem (xvals_get hd)
            have HNX : Hid (rowX l (i + 1) = rowX l i ++ (nextP i (lastN l i) (winX l i).1 (winX l i).2 (l.getD i 0)).1) := Lib.hid rfl
            have HLA := Lib.hid (lastN_succ l i)
            have hnx := HNXT.out i hd
            have hxlt := getN_lt HBB.out i
            obtain ⟨x, hxe⟩ : ∃ x, x = l.getD i 0 := ⟨_, rfl⟩
            rw [← hxe] at HNX HCELL HLA hnx hxlt
            have HC2 := Lib.hid fun w' (h : Kept (fun _ => False) W w') => show w'.cell? ⟨g, off + i, none⟩ = some (.int .u64 (x : Int)) from by
              obtain ⟨_, _, e', b⟩ := HCELL.out w' h
              injection e' with e'; injection e' with e1 e2; subst e1; subst e2
              exact b
            have HG := Lib.hid (xgetY W _ pr r2 rv bs _ i _ _ _ x _ _ _ HI.out HTT.out (by have := HLL.out; omega) (by have := HLB.out; have := HN.out; omega) (win_zero l i) (winX_ok HBB.out i) (lastN_lt HBB.out i) hnx)
            have ex : ((x : Int) != (x : Int)) = false := by simp
            clear hd hxe hil hnx hxlt
            go_wp2_with (go_at_call 41; refine HG.out.mono ?_; rintro e w11 ⟨rfl, h11⟩; have H11 := Lib.hid h11; have c11 := HC2.out _ h11.kept; clear h11)
            go_roundg (l.length - (i + 1))
            case measure => have := HD.out; omega
            case rel => exact ⟨i + 1, HD.out, rfl, by go_num, by rw [HNX.out, HLA.out, List.length_append]; exact H11.out⟩
          · obtain rfl : i = l.length := by omega
            have hend := HI.out.rd
            rw [← HB0.out] at hend
            have HL := Lib.hid (bleft_any _ _ _ _ _ _ hend (by have := HLB.out; have := HN.out; omega))
            rw [Nat.sub_self] at HL
            clear hd hend
            go_wp2_with (go_at_call 32; refine HL.out.mono ?_; rintro e w' ⟨rfl, nq, rfl⟩)
            go_ret
            exact ⟨rfl, HI.out.kept.drewN _⟩

set_option maxHeartbeats 1000000 in
theorem xorRows_walk (ao : Option Addr) (la ca : Nat) (z0 : List Int) (y : Int) (W : World) (h0 : IsRow .u64 W ao la ca z0) (hy : 0 ≤ y ∧ y ≤ 18446744073709551615) (HT : BruTab W) :
    Calls Tryd.prog 7 #[.slice ao la ca, .int .u64 y] W fun e w' => e = .returned (.bool true) ∧ Kept (fun _ => False) W w' := by
  obtain ⟨l, rfl, hb, hv⟩ := h0.slAtN 18446744073709551616 wf_u64
  by_cases hl : l.length ≤ 60
  · obtain ⟨m, rfl⟩ : ∃ m : Nat, y = m := ⟨y.toNat, by omega⟩
    exact xorRows_walk0 ao ca l m W hv hl hb (by omega) HT
  · have HA := Lib.hid (awake7_any W HT)
    have q1 : (60 : Int) < (l.length : Int) := by omega
    clear h0 hb hv HT hl hy
    go_enter Tryd.func7, Tryd.ntmps7
    go_wp2_with fail
    refine HA.out.mono ?_
    rintro e w1 ⟨rfl, K1⟩
    go_wp2
    go_ret
    exact ⟨rfl, K1⟩
end Go.Proofs.YtaagjedkojlbpaaDoor
