/- The walk of 'CrcMore'. -/
import Derived.Test.YtanhdjdojeoodaaDoorC16
namespace Go.Proofs.YtanhdjdojeoodaaDoor
open Go.RowKit
attribute [local go_sem ↓] Go.wp_at_zero Go.wp_at_succ

set_option maxHeartbeats 4000000 in
theorem crcMore_good (ao bo : Option Addr) (ca cb : Nat) (la lb : List Nat) (W : World) (HA : Row8 W (.slice ao la.length ca) la) (HB : Row8 W (.slice bo lb.length cb) lb) (HN : Nibs W) (hla : la.length ≤ 3000) (hlb : lb.length ≤ 3000) :
    Calls Tryd.prog 4 #[.slice ao la.length ca, .slice bo lb.length cb] W fun e w' => e = .returned (.bool true) ∧ Kept (fun _ => False) W w' := by
  obtain ⟨i0, hi, hz0, hz1, hz2⟩ := info_parts info_u8
  have HW := Lib.hid (awake_any W HN)
  have hba : ∀ x ∈ la, x < 256 := by obtain ⟨_, _, _, h, _⟩ := HA; exact h
  have hbb : ∀ x ∈ lb, x < 256 := by obtain ⟨_, _, _, h, _⟩ := HB; exact h
  have c1 : decide ((3000 : Int) < (la.length : Int)) = false := decide_eq_false (by omega)
  have c2 : decide ((3000 : Int) < (lb.length : Int)) = false := decide_eq_false (by omega)
  have HAB := Lib.hid hba
  have HBB := Lib.hid hbb
  have HAW := Lib.hid HA
  have HBW := Lib.hid HB
  have HNW := Lib.hid HN
  clear hba hbb HA HB HN
  go_enter Tryd.func4, Tryd.ntmps4
  go_wp2_with (first
    | (go_at_call 8; refine HW.out.mono ?_; rintro e w1 ⟨rfl, hk1⟩; have H1 := Lib.hid hk1; clear hk1)
    | (at_builtin; refine wpList_append_src _ rfl (.tmp 18) (.tmp 19) 22 22 rfl w1.heap.size 5 i0 (.int .u8 0) 1 1 Tryd.underlying22 hi hz0 hz1 hz2 rfl (.slice (some ⟨w1.heap.size, 0, none⟩) 0 0) 0 [] rfl ?c0 (.slice ao la.length ca) la.length (b8 la) rfl ?cs ?c1 ?c2 ?c3 ?_))
  case c0 => exact ⟨rfl, .inr ⟨w1.heap.size, 0, #[], rfl, Nat.le_refl _, heap_alloc_last w1 _, Nat.le_refl _, by unfold maxLen; omega, rfl, rfl⟩⟩
  case cs => exact (HAW.out.kept (H1.out.alloc _)).src'
  case c1 => unfold maxLen; omega
  case c2 => omega
  case c3 => simp
  intro v1 w2 hown1 hg1 hnil1 hat1
  have hkeep1 : Kept (fun _ => False) W w2 := (H1.out.alloc _).grown hg1 (fun q hq hlt => by simp [Value.ownBlock] at hq; have := H1.out.size; omega)
  replace hown1 : w2.ownsRow w1.heap.size 5 1 v1 la.length (b8 la) := by simpa using hown1
  have hv1 : ¬ v1 = .slice none 0 0 := hnil1
  have O1 := Lib.hid hown1
  have K1 := Lib.hid hkeep1
  have V1 := Lib.hid hv1
  have hsz1 : w1.heap.size ≤ w2.heap.size := by
    have := hg1.size
    simp at this
    omega
  have Z1 := Lib.hid hsz1
  clear hown1 hg1 hnil1 hat1 hkeep1 hv1 hsz1
  go_wp2_with (at_builtin; refine wpList_append_src _ rfl (.tmp 20) (.tmp 21) 22 22 rfl w1.heap.size 5 i0 (.int .u8 0) 1 1 Tryd.underlying22 hi hz0 hz1 hz2 rfl v1 la.length (b8 la) rfl O1.out (.slice bo lb.length cb) lb.length (b8 lb) rfl ?cs ?c1 ?c2 ?c3 ?_)
  case cs => exact (HBW.out.kept K1.out).src'
  case c1 => unfold maxLen; omega
  case c2 => omega
  case c3 => exact Z1.out
  intro v2 w3 hown2 hg2 hnil2 hat2
  have hkeep2 : Kept (fun _ => False) W w3 := K1.out.grown hg2 (fun q hq hlt => by have := (ownsRow_lt O1.out hq).2; have := H1.out.size; omega)
  rcases hown2.2 with ⟨h, _⟩ | ⟨g, cap, cur, rfl, hb1, hb2, hb3, hb4, hb5, hb6⟩
  · exact absurd (hnil2.1 h).1 V1.out
  have hb6' : cur.toList.take (la ++ lb).length = b8 (la ++ lb) := by
    rw [List.length_append]
    simpa [b8] using hb6
  have hb7 : cur.toList.take la.length = b8 la := by
    have h := congrArg (List.take la.length) hb6'
    rw [List.take_take, Nat.min_eq_left (by simp)] at h
    rw [h]
    simp [b8]
  have hall : ∀ x ∈ la ++ lb, x < 256 := by
    intro x hx
    rcases List.mem_append.1 hx with h | h
    · exact HAB.out x h
    · exact HBB.out x h
  have CM : Cm W w3 (.slice ao la.length ca) (.slice bo lb.length cb) (.slice (some ⟨g, 0, none⟩) (la.length + lb.length) cap) la lb g cap := by
    refine ⟨hkeep2, HAW.out.kept hkeep2, HBW.out.kept hkeep2, ?_, row8_of_own HAB.out hb2 hb7, by omega, by rw [List.length_append]⟩
    have := row8_of_own (cap := cap) hall hb2 hb6'
    rwa [List.length_append] at this
  have hroom : ((la.length : Nat) : Int) ≤ (cap : Int) := by omega
  have C := Lib.hid CM
  clear CM hown2 hg2 hnil2 hat2 hkeep2 hb1 hb2 hb3 hb4 hb5 hb6 hb6' hb7 O1 K1 V1 Z1 H1 HW HAW HBW
  have DM := Lib.hid (fun w' (hk : Kept (fun _ => False) w3 w') => more_any (crcMore 0 la) _ lb (crcMore_lt _ _) (by omega) w' (C.out.to hk).b (HNW.out.kept (C.out.to hk).kept))
  have DA := Lib.hid (fun w' (hk : Kept (fun _ => False) w3 w') => crcOf_any _ la (by omega) w' (C.out.to hk).a (HNW.out.kept (C.out.to hk).kept))
  have DB := Lib.hid (fun w' (hk : Kept (fun _ => False) w3 w') => crcOf_any _ lb (by omega) w' (C.out.to hk).b (HNW.out.kept (C.out.to hk).kept))
  have DL := Lib.hid (fun w' (hk : Kept (fun _ => False) w3 w') => crcOf_any _ (la ++ lb) (by rw [List.length_append]; omega) w' (C.out.to hk).all (HNW.out.kept (C.out.to hk).kept))
  have DJ := Lib.hid (fun w' => join_any (crcMore 0 la) (crcMore 0 lb) lb.length (crcMore_lt _ _) (crcMore_lt _ _) (by omega) (by omega) w')
  rw [joinN_more la lb HAB.out HBB.out] at DJ
  rw [← crcMore_append 0 la lb (by omega) HAB.out] at DM
  have QA := Lib.hid (fun w' (hk : Kept (fun _ => False) w3 w') => conv8 (C.out.to hk).a)
  have QH := Lib.hid (fun w' (hk : Kept (fun _ => False) w3 w') => conv8 (C.out.to hk).head)
  obtain ⟨XA, hXA⟩ : ∃ X, X = crcMore 0 la := ⟨_, rfl⟩
  obtain ⟨XB, hXB⟩ : ∃ X, X = crcMore 0 lb := ⟨_, rfl⟩
  obtain ⟨XL, hXL⟩ : ∃ X, X = crcMore 0 (la ++ lb) := ⟨_, rfl⟩
  obtain ⟨T, hT⟩ : ∃ T, T = strN la := ⟨_, rfl⟩
  rw [← hXL] at DM DL DJ
  rw [← hXA] at DM DA DJ
  rw [← hXB] at DB DJ
  rw [← hT] at QA QH
  obtain ⟨CA, hCA⟩ : ∃ CA : World → Result Value, ∀ w, (convert 22 9 (.slice ao la.length ca)).run Tryd.prog w = CA w := ⟨_, fun _ => rfl⟩
  obtain ⟨CH, hCH⟩ : ∃ CH : World → Result Value, ∀ w, (convert 22 9 (.slice (some ⟨g, 0, none⟩) la.length cap)).run Tryd.prog w = CH w := ⟨_, fun _ => rfl⟩
  have QA2 := Lib.hid (fun w' (hk : Kept (fun _ => False) w3 w') => (hCA w').symm.trans (QA.out w' hk))
  have QH2 := Lib.hid (fun w' (hk : Kept (fun _ => False) w3 w') => (hCH w').symm.trans (QH.out w' hk))
  clear hXA hXB hXL hT hall HAB HBB HNW
  have hk0 := Lib.hid (Kept.refl (fun _ => False) w3)
  go_upto_region 7 with (first
    | (go_at_call_of 9 la; refine (DA.out _ hk0.out).mono ?_; rintro e w' ⟨rfl, rfl⟩)
    | (go_at_call_of 9 lb; refine (DB.out _ hk0.out).mono ?_; rintro e w' ⟨rfl, rfl⟩))
  have la0 : (0 : Int) ≤ (la.length : Int) := by omega
  refine wp_region_any (by kernel_rfl) ?_
  change wpAny _ _ _ _ _ _ _ (World.drew _)
  refine wpAny_take (i := 0) (v := ?v0_1) rfl (by kernel_rfl) (by kernel_rfl) (by kernel_rfl) (fun _ _ _ h => h) (Or.inl ⟨by rfl, ?hy0_1⟩) ?r0_1
  case hy0_1 => intro w; go_simp; try with_reducible rfl
  refine wpAny_take (i := 1) (v := ?v1_2) rfl (by kernel_rfl) (by kernel_rfl) (by kernel_rfl) (fun _ _ _ h => h) (Or.inl ⟨by rfl, ?hy1_2⟩) ?r1_2
  case hy1_2 => intro w; go_simp; try with_reducible rfl
  refine wpAny_take (i := 3) (v := ?v3_3) rfl (by kernel_rfl) (by kernel_rfl) (by kernel_rfl) (fun _ _ _ h => h) (Or.inl ⟨by rfl, ?hy3_3⟩) ?r3_3
  case hy3_3 => intro w; go_simp; try with_reducible rfl
  refine wpAny_ready (rs := [2]) (by kernel_rfl) (by simp) ?_
  refine AllReady.cons rfl (fun K hK => ?_) AllReady.nil
  go_simp
  go_wp2_with (go_at_call 11; refine (DM.out _ hk0.out.drew).mono ?_; rintro e w' ⟨rfl, rfl⟩)
  refine wpAny_ready (rs := [4]) (by kernel_rfl) (by simp) ?_
  refine AllReady.cons rfl (fun K hK => ?_) AllReady.nil
  go_simp
  go_wp2_with (go_at_call 9; refine (DL.out _ hk0.out.drew).mono ?_; rintro e w' ⟨rfl, rfl⟩)
  refine wpAny_take (i := 5) (v := ?v5_4) rfl (by kernel_rfl) (by kernel_rfl) (by kernel_rfl) (fun _ _ _ h => h) (Or.inl ⟨by rfl, ?hy5_4⟩) ?r5_4
  case hy5_4 => intro w; go_simp; try with_reducible rfl
  refine wpAny_take (i := 6) (v := ?v6_5) rfl (by kernel_rfl) (by kernel_rfl) (by kernel_rfl) (fun _ _ _ h => h) (Or.inl ⟨by rfl, ?hy6_5⟩) ?r6_5
  case hy6_5 => intro w; go_simp; try with_reducible rfl
  refine wpAny_take (i := 7) (v := ?v7_6) rfl (by kernel_rfl) (by kernel_rfl) (by kernel_rfl) (fun _ _ _ h => h) (Or.inl ⟨by rfl, ?hy7_6⟩) ?r7_6
  case hy7_6 => intro w; go_simp; try with_reducible rfl
  refine wpAny_take (i := 8) (v := ?v8_7) rfl (by kernel_rfl) (by kernel_rfl) (by kernel_rfl) (fun _ _ _ h => h) (Or.inl ⟨by rfl, ?hy8_7⟩) ?r8_7
  case hy8_7 => intro w; go_simp; try with_reducible rfl
  refine wpAny_take (i := 9) (v := ?v9_8) rfl (by kernel_rfl) (by kernel_rfl) (by kernel_rfl) (fun _ _ _ h => h) (Or.inl ⟨by rfl, ?hy9_8⟩) ?r9_8
  case hy9_8 => intro w; go_simp; try with_reducible rfl
  refine wpAny_take (i := 10) (v := ?v10_9) rfl (by kernel_rfl) (by kernel_rfl) (by kernel_rfl) (fun _ _ _ h => h) (Or.inl ⟨by rfl, ?hy10_9⟩) ?r10_9
  case hy10_9 => intro w; go_simp; try with_reducible rfl
  refine wpAny_take (i := 12) (v := ?v12_10) rfl (by kernel_rfl) (by kernel_rfl) (by kernel_rfl) (fun _ _ _ h => h) (Or.inl ⟨by rfl, ?hy12_10⟩) ?r12_10
  case hy12_10 => intro w; go_simp; try with_reducible rfl
  refine wpAny_ready (rs := [11]) (by kernel_rfl) (by simp) ?_
  refine AllReady.cons rfl (fun K hK => ?_) AllReady.nil
  go_simp
  go_wp2_with (go_at_call 13; refine (DJ.out _).mono ?_; rintro e w5 ⟨rfl, hk⟩; have hk5 := Lib.hid (hk0.out.drew.trans hk); clear hk)
  refine wpAny_ready (rs := [13]) (by kernel_rfl) (by simp) ?_
  refine AllReady.cons rfl (fun K hK => ?_) AllReady.nil
  go_simp
  go_wp2_with (go_at_call 9; refine (DL.out _ hk5.out).mono ?_; rintro e w' ⟨rfl, rfl⟩)
  refine wpAny_take (i := 14) (v := ?v14_11) rfl (by kernel_rfl) (by kernel_rfl) (by kernel_rfl) (fun _ _ _ h => h) (Or.inl ⟨by rfl, ?hy14_11⟩) ?r14_11
  case hy14_11 => intro w; go_simp; try with_reducible rfl
  refine wpAny_take (i := 15) (v := ?v15_12) rfl (by kernel_rfl) (by kernel_rfl) (by kernel_rfl) (fun _ _ _ h => h) (Or.inl ⟨by rfl, ?hy15_12⟩) ?r15_12
  case hy15_12 => intro w; go_simp; try with_reducible rfl
  refine wpAny_take (i := 16) (v := ?v16_13) rfl (by kernel_rfl) (by kernel_rfl) (by kernel_rfl) (fun _ _ _ h => h) (Or.inl ⟨by rfl, ?hy16_13⟩) ?r16_13
  case hy16_13 => intro w; go_simp; try with_reducible rfl
  refine wpAny_take (i := 17) (v := ?v17_14) rfl (by kernel_rfl) (by kernel_rfl) (by kernel_rfl) (fun _ _ _ h => h) (Or.inl ⟨by rfl, ?hy17_14⟩) ?r17_14
  case hy17_14 => intro w; go_simp; try with_reducible rfl
  refine wpAny_take (i := 18) (v := ?v18_15) rfl (by kernel_rfl) (by kernel_rfl) (by kernel_rfl) (fun _ _ _ h => h) (Or.inl ⟨by rfl, ?hy18_15⟩) ?r18_15
  case hy18_15 => intro w; go_simp; try with_reducible rfl
  refine wpAny_take (i := 19) (v := ?v19_16) rfl (by kernel_rfl) (by kernel_rfl) (by kernel_rfl) (fun _ _ _ h => h) (Or.inl ⟨by rfl, ?hy19_16⟩) ?r19_16
  case hy19_16 => intro w; go_simp; try with_reducible rfl
  refine wpAny_take (i := 20) (v := ?v20_17) rfl (by kernel_rfl) (by kernel_rfl) (by kernel_rfl) (fun _ _ _ h => h) (Or.inl ⟨by rfl, ?hy20_17⟩) ?r20_17
  case hy20_17 => intro w; go_simp; try with_reducible rfl
  refine wpAny_take (i := 22) (v := ?v22_18) rfl (by kernel_rfl) (by kernel_rfl) (by kernel_rfl) (fun _ _ _ h => h) (Or.inl ⟨by rfl, ?hy22_18⟩) ?r22_18
  case hy22_18 => intro w; go_simp; try with_reducible rfl
  have qa := QA2.out _ hk5.out
  have qh := QH2.out _ hk5.out
  refine wpAny_ready (rs := [21, 23]) (by kernel_rfl) (by simp) ?_
  refine AllReady.cons rfl (fun K hK => ?_) (AllReady.cons rfl (fun K hK => ?_) AllReady.nil)
  · go_simp
    refine hK _ _ ?_
    clear hK K
    refine wpAny_ready (rs := [23]) (by kernel_rfl) (by simp) ?_
    refine AllReady.cons rfl (fun K hK => ?_) AllReady.nil
    go_simp
    refine hK _ _ ?_
    clear hK K
    refine wpAny_take (i := 24) (v := ?v24_19) rfl (by kernel_rfl) (by kernel_rfl) (by kernel_rfl) (fun _ _ _ h => h) (Or.inl ⟨by rfl, ?hy24_19⟩) ?r24_19
    case hy24_19 => intro w; go_simp; try with_reducible rfl
    refine wpAny_take (i := 25) (v := ?v25_20) rfl (by kernel_rfl) (by kernel_rfl) (by kernel_rfl) (fun _ _ _ h => h) (Or.inl ⟨by rfl, ?hy25_20⟩) ?r25_20
    case hy25_20 => intro w; go_simp; try with_reducible rfl
    refine wpAny_take (i := 26) (v := ?v26_21) rfl (by kernel_rfl) (by kernel_rfl) (by kernel_rfl) (fun _ _ _ h => h) (Or.inl ⟨by rfl, ?hy26_21⟩) ?r26_21
    case hy26_21 => intro w; go_simp; try with_reducible rfl
    refine wpAny_done (by kernel_rfl) ?_ _
    go_wp2
    go_ret
    exact ⟨rfl, C.out.kept.trans hk5.out⟩
  · go_simp
    refine hK _ _ ?_
    clear hK K
    refine wpAny_ready (rs := [21]) (by kernel_rfl) (by simp) ?_
    refine AllReady.cons rfl (fun K hK => ?_) AllReady.nil
    go_simp
    refine hK _ _ ?_
    clear hK K
    refine wpAny_take (i := 24) (v := ?v24_22) rfl (by kernel_rfl) (by kernel_rfl) (by kernel_rfl) (fun _ _ _ h => h) (Or.inl ⟨by rfl, ?hy24_22⟩) ?r24_22
    case hy24_22 => intro w; go_simp; try with_reducible rfl
    refine wpAny_take (i := 25) (v := ?v25_23) rfl (by kernel_rfl) (by kernel_rfl) (by kernel_rfl) (fun _ _ _ h => h) (Or.inl ⟨by rfl, ?hy25_23⟩) ?r25_23
    case hy25_23 => intro w; go_simp; try with_reducible rfl
    refine wpAny_take (i := 26) (v := ?v26_24) rfl (by kernel_rfl) (by kernel_rfl) (by kernel_rfl) (fun _ _ _ h => h) (Or.inl ⟨by rfl, ?hy26_24⟩) ?r26_24
    case hy26_24 => intro w; go_simp; try with_reducible rfl
    refine wpAny_done (by kernel_rfl) ?_ _
    go_wp2
    go_ret
    exact ⟨rfl, C.out.kept.trans hk5.out⟩
end Go.Proofs.YtanhdjdojeoodaaDoor
