/- Layer 14: the walk of TablePlays (written by tools/gen_XMN.py). -/
import Derived.Test.YtoppcohgjmghdaaMM
namespace Go.Proofs.Ytoppcohgjmghdaa
open Go.RowKit
attribute [local go_sem ↓] Go.wp_at_zero Go.wp_at_succ

set_option maxRecDepth 100000 in
set_option maxHeartbeats 16000000 in
theorem tablePlays_walk (most : Int) (aa : Option Addr) (ca : Nat) (A : List At) (w : World) (hm : -9223372036854775808 ≤ most ∧ most ≤ 9223372036854775807) (hA : ActsIn w aa A) (hAl : A.length ≤ 9223372036854775807) :
    Calls Try.prog 3 #[.int .i64 most, .slice aa A.length ca] w fun e w' => e = .returned (.bool true) ∧ Kept (fun _ => False) w w' := by
  have HAW := Lib.hid (awake14_any w)
  have HFEW := Lib.hid (fun w' (k : Kept (fun _ => False) w w') => few14_any aa ca A w' (hA.at_.kept k) hAl (fun x hx => (hA.ok x hx).key))
  have HA := Lib.hid hA
  obtain ⟨n, hn⟩ : ∃ n, n = A.length := ⟨_, rfl⟩
  rw [← hn] at HFEW ⊢
  have HN := Lib.hid hn
  have HM := Lib.hid (show I64 most from hm)
  clear hn hA hAl hm
  cases hf : fewAt A with
  | false =>
    rw [hf] at HFEW
    clear hf
    go_enter Try.func3, Try.ntmps3
    go_wp2_with fail
    refine HAW.out.mono ?_
    rintro e w1 ⟨rfl, k1⟩
    have HK1 := Lib.hid k1
    go_wp2_with fail
    refine (HFEW.out w1 k1).mono ?_
    rintro e w2 ⟨rfl, rfl⟩
    clear k1
    go_wp2
    go_ret
    exact ⟨rfl, HK1.out⟩
  | true =>
    rw [hf] at HFEW
    have H60 := Lib.hid (show n ≤ 60 ∧ ∀ x ∈ A, x.key.size ≤ 60 from ⟨by rw [HN.out]; exact (fewAt_ok hf).1, (fewAt_ok hf).2⟩)
    clear hf
    go_enter Try.func3, Try.ntmps3
    go_wp2_with fail
    refine HAW.out.mono ?_
    rintro e w1 ⟨rfl, k1⟩
    have HK1 := Lib.hid k1
    go_wp2_with fail
    refine (HFEW.out w1 k1).mono ?_
    rintro e w2 ⟨rfl, rfl⟩
    clear k1
    go_wp2_with fail
    refine (tNew_any most HM.out w1).mono ?_
    rintro e w3 ⟨tb, mb, rfl, ht, k3⟩
    have HPT : Hid (PT w.heap.size w3 tb mb [] [] most 0 none 0) := Lib.hid (PT.start (ht.down (HK1.out.size)))
    have HK3 := Lib.hid (HK1.out.trans k3)
    clear ht k3
    go_wp2
    go_loopg [6, 7] n (fun g s6 s7 wr => ∃ i : Nat, i ≤ n ∧ g = n - i ∧ s7 = .int .i64 i ∧ Kept (fun _ => False) w wr ∧ PM w.heap.size wr tb mb most i s6)
    case atStart => exact ⟨0, Nat.zero_le _, rfl, rfl, HK3.out, ⟨none, 0, [], [], 0, rfl, HPT.out⟩⟩
    case round =>
      obtain ⟨i, hin, rfl, rfl, hkr, ao, c, L, M, p, rfl, hp⟩ := hrel
      have HP := Lib.hid hp
      have HKR := Lib.hid hkr
      obtain ⟨m, hmm⟩ : ∃ m, m = (dtM M).length := ⟨_, rfl⟩
      rw [← hmm]
      have HMM := Lib.hid hmm
      by_cases hd : i < n
      · have hdi : (i : Int) < (n : Int) := by omega
        have hdi0 : (0 : Int) ≤ (i : Int) := by omega
        have HI := Lib.hid hd
        obtain ⟨x, hx⟩ : ∃ x, A[i]? = some x := ⟨_, List.getElem?_eq_getElem (by have := HN.out; omega)⟩
        have hxm : x ∈ A := List.mem_of_getElem? hx
        have hxk := H60.out.2 x hxm
        have hxo := HA.out.ok x hxm
        obtain ⟨gg, oo, hga, hgc⟩ := (HA.out.at_.kept hkr) (by have := HN.out; omega)
        obtain ⟨kd, key, v⟩ := x
        have g0 := hgc i _ hx 0 (.int .i64 kd) rfl
        have g1 := hgc i _ hx 1 (.string key) rfl
        have g2 := hgc i _ hx 2 (.int .i64 v) rfl
        rw [Nat.add_zero] at g0
        dsimp only at hxk hxo
        have HKY : Hid (key.size ≤ maxLen) := Lib.hid hxo.key
        have wi : IntKind.i64.wrap ((i : Int) + 1) = ((i + 1 : Nat) : Int) := by have := H60.out.1; rw [IntWalk.i64_in _ ⟨by omega, by omega⟩]; omega
        have HI60 : Hid (i < 60) := Lib.hid (by have := H60.out.1; omega)
        obtain ⟨q, hq⟩ : ∃ q, q = wr.heap.size := ⟨_, rfl⟩
        obtain ⟨wa, hwa⟩ : ∃ wa, wa = wr.alloc (.cells #[.int .i64 kd, .string key, .int .i64 v] 29) := ⟨_, rfl⟩
        have ka : Kept (fun _ => False) wr wa := by rw [hwa]; exact (Kept.refl _ _).alloc _
        have BA : BoxAt wa q 29 #[.int .i64 kd, .string key, .int .i64 v] := by rw [hwa, hq]; exact BoxAt.new wr _ _
        have HPA := Lib.hid (hp.kept ka)
        have HQ : Hid (¬ tfoot tb mb q) := Lib.hid (fun f => by have := hp.lt _ f; omega)
        have HKA := Lib.hid (hkr.trans ka)
        have HBA := Lib.hid (fun w' (k : Kept (fun _ => False) wa w') => BA.kept k (fun x => x))
        have HW := Lib.hid (And.intro hwa hq)
        have HC := Lib.hid (fun w' (k : Kept (fun _ => False) wa w') => And.intro ((HBA.out w' k).cell (i := 0) (u := .int .i64 kd) rfl) (And.intro ((HBA.out w' k).cell (i := 1) (u := .string key) rfl) ((HBA.out w' k).cell (i := 2) (u := .int .i64 v) rfl)))
        obtain ⟨b0, b1, b2⟩ := HC.out wa (Kept.refl _ _)
        have HG := Lib.hid (tGet_any w.heap.size tb mb L M most p key hxo.key wa HPA.out.t)
        have HRG := Lib.hid (fun w' (k : Kept (fun _ => False) wa w') => rGet_any ao c (dtM M) key w' ((HPA.out.d).kept k) (by have := HPA.out.len; have := HI60.out; rw [dtM_len]; omega))
        rw [← hmm] at HRG
        rw [getD_atT, dtM_some] at HRG
        obtain ⟨gv, hgv⟩ : ∃ gv, gv = (atT M key).1 := ⟨_, rfl⟩
        obtain ⟨gb, hgb⟩ : ∃ gb, gb = (getM M key).isSome := ⟨_, rfl⟩
        rw [← hgv, ← hgb] at HG HRG
        have HGB := Lib.hid hgb
        subst hga
        clear hx hxm hxk hxo hgc hp hkr hmm hin hd hwa hq ka BA hgv hgb
        go_upto_region 13 with fail
        rw [← HW.out.1, ← HW.out.2]
        go_wp2_with fail
        refine HG.out.mono ?_
        rintro e w4 ⟨rfl, k4⟩
        obtain ⟨b0, b1, b2⟩ := HC.out w4 k4
        have HK4 := Lib.hid k4
        clear k4
        go_wp2_with fail
        refine (HRG.out w4 HK4.out).mono ?_
        rintro e w5 ⟨rfl, rfl⟩
        have HP4 := Lib.hid (HPA.out.kept HK4.out)
        have HKW := Lib.hid (HKA.out.trans HK4.out)
        clear g0 g1 g2
        by_cases h0 : kd = 0
        · have z0 : (kd == 0) = true := beq_iff_eq.2 h0
          have HRP := Lib.hid (rPut_any ao c (dtM M) most key v w4 HP4.out.d (by have := HP4.out.len; have := HI60.out; rw [dtM_len]; omega))
          rw [← HMM.out] at HRP
          obtain ⟨R, hR⟩ : ∃ R, R = PutD w4 ao c (dtM M) most key v := ⟨_, rfl⟩
          rw [← hR] at HRP
          have HR := Lib.hid hR
          have HTP := Lib.hid (fun w' (k : Kept (fun _ => False) w4 w') => tPut_any w.heap.size tb mb L M most p (by have := HP4.out.pi; have := HI60.out; omega) key HKY.out v w' (HP4.out.kept k).t)
          rw [HP4.out.may (Nat.le_of_lt HI60.out) key] at HTP
          clear hR h0
          go_wp2_with fail
          refine HRP.out.mono ?_
          intro e w6 hpd
          rw [HR.out] at hpd
          rcases hpd with ⟨hmay, rfl, rfl⟩ | ⟨hmay, v6, rfl, hm6⟩
          · rw [hmay] at HTP
            rw [← HMM.out]
            clear hmay
            go_wp2_with fail
            refine (HTP.out w4 (Kept.refl _ _)).mono ?_
            rintro e w7 ⟨rfl, k7, _, ht7⟩
            have HPX := Lib.hid (HP4.out.stay (ht7 (by trivial)) k7)
            have HKX := Lib.hid (HKW.out.newer k7 HP4.out.foot)
            rw [HMM.out]
            clear k7 ht7
            obtain ⟨mx, hmx⟩ : ∃ mx, mx = (dtM M).length := ⟨_, rfl⟩
            rw [← hmx]
            have HSM := Lib.hid (HPX.out.same (Nat.succ_le_of_lt HI60.out) c)
            rw [← hmx] at HSM
            have HMX : Hid (mx = (M).length) := Lib.hid (by rw [hmx, dtM_len])
            have HFT := Lib.hid HPX.out.fit
            rw [← HMX.out] at HFT
            clear hmx
            have HTL := Lib.hid (fun w' (k : Kept (fun _ => False) w7 w') => tLen_any w.heap.size tb mb L M most p w' (HPX.out.kept k).t)
            rw [← HMX.out] at HTL
            cases hm0 : decide (most ≤ 0) with
            | true =>
              have e0 : most ≤ 0 := of_decide_eq_true hm0
              have q0 : mx = 0 := by have := HFT.out; omega
              have q1 : ¬ (0 : Int) < (mx : Int) := by omega
              clear q0 e0
              go_wp2_with fail
              refine HSM.out.mono ?_
              rintro e w8 ⟨rfl, k8⟩
              go_wp2_with fail
              refine (HTL.out w8 k8).mono ?_
              rintro e w9 ⟨rfl, rfl⟩
              have HK8 := Lib.hid k8
              clear k8
              go_wp2
              go_roundg (n - (i + 1))
              case measure => have := HI.out; omega
              case rel => exact ⟨i + 1, HI.out, rfl, rfl, HKX.out.trans HK8.out, ⟨ao, c, L, M, p, by rw [HMX.out, dtM_len], HPX.out.kept HK8.out⟩⟩
            | false =>
              have e0 : ¬ most ≤ 0 := of_decide_eq_false hm0
              have q1 : ¬ most < (mx : Int) := by have := HFT.out; omega
              clear e0
              go_wp2_with fail
              refine HSM.out.mono ?_
              rintro e w8 ⟨rfl, k8⟩
              go_wp2_with fail
              refine (HTL.out w8 k8).mono ?_
              rintro e w9 ⟨rfl, rfl⟩
              have HK8 := Lib.hid k8
              clear k8
              go_wp2
              go_roundg (n - (i + 1))
              case measure => have := HI.out; omega
              case rel => exact ⟨i + 1, HI.out, rfl, rfl, HKX.out.trans HK8.out, ⟨ao, c, L, M, p, by rw [HMX.out, dtM_len], HPX.out.kept HK8.out⟩⟩
          · rw [hmay] at HTP
            have k6 := hm6.kept
            obtain ⟨a6, c6, e6⟩ := hm6.slice
            rw [dtM_put M key v p] at hm6 e6
            subst e6
            have HM6 := Lib.hid hm6
            obtain ⟨m6, hm6l⟩ : ∃ m6, m6 = (dtM (putT M key v p)).length := ⟨_, rfl⟩
            rw [← hm6l]
            have HM6L := Lib.hid hm6l
            have hmay' := hmay
            clear hm6 hm6l
            obtain ⟨b0, b1, b2⟩ := HC.out w6 (HK4.out.trans k6)
            clear hmay
            go_wp2_with fail
            refine (HTP.out w6 k6).mono ?_
            rintro e w7 ⟨rfl, k7, ht7, _⟩
            have HPX := Lib.hid (HP4.out.put HM6.out (ht7 (by trivial)) k7 hmay' HKY.out)
            have HKX := Lib.hid ((HKW.out.trans k6).newer k7 HP4.out.foot)
            rw [HM6L.out]
            clear k7 ht7 k6 hmay'
            obtain ⟨mx, hmx⟩ : ∃ mx, mx = (dtM (putT M key v p)).length := ⟨_, rfl⟩
            rw [← hmx]
            have HSM := Lib.hid (HPX.out.same (Nat.succ_le_of_lt HI60.out) c6)
            rw [← hmx] at HSM
            have HMX : Hid (mx = ((putT M key v p)).length) := Lib.hid (by rw [hmx, dtM_len])
            have HFT := Lib.hid HPX.out.fit
            rw [← HMX.out] at HFT
            clear hmx
            have HTL := Lib.hid (fun w' (k : Kept (fun _ => False) w7 w') => tLen_any w.heap.size tb mb (setM L key (v, p)) (putT M key v p) most (p + 1) w' (HPX.out.kept k).t)
            rw [← HMX.out] at HTL
            cases hm0 : decide (most ≤ 0) with
            | true =>
              have e0 : most ≤ 0 := of_decide_eq_true hm0
              have q0 : mx = 0 := by have := HFT.out; omega
              have q1 : ¬ (0 : Int) < (mx : Int) := by omega
              clear q0 e0
              go_wp2_with fail
              refine HSM.out.mono ?_
              rintro e w8 ⟨rfl, k8⟩
              go_wp2_with fail
              refine (HTL.out w8 k8).mono ?_
              rintro e w9 ⟨rfl, rfl⟩
              have HK8 := Lib.hid k8
              clear k8
              go_wp2
              go_roundg (n - (i + 1))
              case measure => have := HI.out; omega
              case rel => exact ⟨i + 1, HI.out, rfl, rfl, HKX.out.trans HK8.out, ⟨a6, c6, (setM L key (v, p)), (putT M key v p), (p + 1), by rw [HMX.out, dtM_len], HPX.out.kept HK8.out⟩⟩
            | false =>
              have e0 : ¬ most ≤ 0 := of_decide_eq_false hm0
              have q1 : ¬ most < (mx : Int) := by have := HFT.out; omega
              clear e0
              go_wp2_with fail
              refine HSM.out.mono ?_
              rintro e w8 ⟨rfl, k8⟩
              go_wp2_with fail
              refine (HTL.out w8 k8).mono ?_
              rintro e w9 ⟨rfl, rfl⟩
              have HK8 := Lib.hid k8
              clear k8
              go_wp2
              go_roundg (n - (i + 1))
              case measure => have := HI.out; omega
              case rel => exact ⟨i + 1, HI.out, rfl, rfl, HKX.out.trans HK8.out, ⟨a6, c6, (setM L key (v, p)), (putT M key v p), (p + 1), by rw [HMX.out, dtM_len], HPX.out.kept HK8.out⟩⟩
        by_cases h1 : kd = 1
        · have z0 : (kd == 0) = false := beq_eq_false_iff_ne.2 h0
          have z1 : (kd == 1) = true := beq_iff_eq.2 h1
          have HTD := Lib.hid (tDel_any w.heap.size tb mb L M most p key HKY.out w4 HP4.out.t)
          rw [← HGB.out] at HTD
          clear h0 h1
          go_wp2_with fail
          refine HTD.out.mono ?_
          rintro e w6 ⟨rfl, ht6, k6⟩
          have HP6 := Lib.hid (HP4.out.mid k6)
          have HK6 := Lib.hid k6
          have HT6 := Lib.hid ht6
          have b1 := ((HBA.out w4 HK4.out).kept k6 HQ.out).cell (i := 1) (u := .string key) rfl
          have HRD := Lib.hid (rDel_any ao c (dtM M) key w6 HP6.out (by have := HP4.out.len; have := HI60.out; rw [dtM_len]; omega))
          rw [← HMM.out] at HRD
          clear k6 ht6
          go_wp2_with fail
          refine HRD.out.mono ?_
          rintro e w7 ⟨v7, rfl, hm7⟩
          obtain ⟨a7, c7, e7⟩ := hm7.slice
          rw [dtM_del M key] at hm7 e7
          subst e7
          have HPX := Lib.hid (HP4.out.del HK6.out HT6.out hm7)
          have HKX := Lib.hid ((HKW.out.newer HK6.out HP4.out.foot).trans hm7.kept)
          clear hm7
          obtain ⟨mx, hmx⟩ : ∃ mx, mx = (dtM (delM M key)).length := ⟨_, rfl⟩
          rw [← hmx]
          have HSM := Lib.hid (HPX.out.same (Nat.succ_le_of_lt HI60.out) c7)
          rw [← hmx] at HSM
          have HMX : Hid (mx = ((delM M key)).length) := Lib.hid (by rw [hmx, dtM_len])
          have HFT := Lib.hid HPX.out.fit
          rw [← HMX.out] at HFT
          clear hmx
          have HTL := Lib.hid (fun w' (k : Kept (fun _ => False) w7 w') => tLen_any w.heap.size tb mb (delM L key) (delM M key) most p w' (HPX.out.kept k).t)
          rw [← HMX.out] at HTL
          cases hm0 : decide (most ≤ 0) with
          | true =>
            have e0 : most ≤ 0 := of_decide_eq_true hm0
            have q0 : mx = 0 := by have := HFT.out; omega
            have q1 : ¬ (0 : Int) < (mx : Int) := by omega
            clear q0 e0
            go_wp2_with fail
            refine HSM.out.mono ?_
            rintro e w8 ⟨rfl, k8⟩
            go_wp2_with fail
            refine (HTL.out w8 k8).mono ?_
            rintro e w9 ⟨rfl, rfl⟩
            have HK8 := Lib.hid k8
            clear k8
            go_wp2
            go_roundg (n - (i + 1))
            case measure => have := HI.out; omega
            case rel => exact ⟨i + 1, HI.out, rfl, rfl, HKX.out.trans HK8.out, ⟨a7, c7, (delM L key), (delM M key), p, by rw [HMX.out, dtM_len], HPX.out.kept HK8.out⟩⟩
          | false =>
            have e0 : ¬ most ≤ 0 := of_decide_eq_false hm0
            have q1 : ¬ most < (mx : Int) := by have := HFT.out; omega
            clear e0
            go_wp2_with fail
            refine HSM.out.mono ?_
            rintro e w8 ⟨rfl, k8⟩
            go_wp2_with fail
            refine (HTL.out w8 k8).mono ?_
            rintro e w9 ⟨rfl, rfl⟩
            have HK8 := Lib.hid k8
            clear k8
            go_wp2
            go_roundg (n - (i + 1))
            case measure => have := HI.out; omega
            case rel => exact ⟨i + 1, HI.out, rfl, rfl, HKX.out.trans HK8.out, ⟨a7, c7, (delM L key), (delM M key), p, by rw [HMX.out, dtM_len], HPX.out.kept HK8.out⟩⟩
        by_cases h3 : kd = 3
        · have z0 : (kd == 0) = false := beq_eq_false_iff_ne.2 h0
          have z1 : (kd == 1) = false := beq_eq_false_iff_ne.2 h1
          have z3 : (kd == 3) = true := beq_iff_eq.2 h3
          have HTC := Lib.hid (tClone_any w.heap.size tb mb L M most p w4 HKW.out.size HP4.out.t)
          clear h0 h1 h3
          go_wp2_with fail
          refine HTC.out.mono ?_
          rintro e w6 ⟨tc, mc, rfl, ht6, k6, htc, hmc⟩
          have HF6 : Hid (∀ j, tfoot tc mc j → w4.heap.size ≤ j) := Lib.hid (fun j e => by rcases e with e | e <;> rw [e] <;> assumption)
          have HTD := Lib.hid (tDel_any w.heap.size tc mc L M most p key HKY.out w6 ht6)
          have HK6 := Lib.hid k6
          obtain ⟨b0, b1, b2⟩ := HC.out w6 (HK4.out.trans k6)
          clear ht6 k6 htc hmc
          go_wp2_with fail
          refine HTD.out.mono ?_
          rintro e w7 ⟨rfl, ht7, k7⟩
          have HTP := Lib.hid (tPut_any w.heap.size tc mc (delM L key) (delM M key) most p (by have := HP4.out.pi; have := HI60.out; omega) { data := #[33] } (by decide) v w7 ht7)
          have HK7 := Lib.hid (HK6.out.newer k7 HF6.out)
          obtain ⟨b0, b1, b2⟩ := HC.out w7 (HK4.out.trans HK7.out)
          clear ht7 k7
          go_wp2_with fail
          refine HTP.out.mono ?_
          rintro e w8 ⟨rfl, k8, _, _⟩
          have HK8 := Lib.hid (HK7.out.newer k8 HF6.out)
          have HPX := Lib.hid ((HP4.out.kept HK8.out).next)
          have HKX := Lib.hid (HKW.out.trans HK8.out)
          rw [HMM.out]
          clear k8
          obtain ⟨mx, hmx⟩ : ∃ mx, mx = (dtM M).length := ⟨_, rfl⟩
          rw [← hmx]
          have HSM := Lib.hid (HPX.out.same (Nat.succ_le_of_lt HI60.out) c)
          rw [← hmx] at HSM
          have HMX : Hid (mx = (M).length) := Lib.hid (by rw [hmx, dtM_len])
          have HFT := Lib.hid HPX.out.fit
          rw [← HMX.out] at HFT
          clear hmx
          have HTL := Lib.hid (fun w' (k : Kept (fun _ => False) w8 w') => tLen_any w.heap.size tb mb L M most p w' (HPX.out.kept k).t)
          rw [← HMX.out] at HTL
          cases hm0 : decide (most ≤ 0) with
          | true =>
            have e0 : most ≤ 0 := of_decide_eq_true hm0
            have q0 : mx = 0 := by have := HFT.out; omega
            have q1 : ¬ (0 : Int) < (mx : Int) := by omega
            clear q0 e0
            go_wp2_with fail
            refine HSM.out.mono ?_
            rintro e wy ⟨rfl, k8⟩
            go_wp2_with fail
            refine (HTL.out wy k8).mono ?_
            rintro e w9 ⟨rfl, rfl⟩
            have HK8 := Lib.hid k8
            clear k8
            go_wp2
            go_roundg (n - (i + 1))
            case measure => have := HI.out; omega
            case rel => exact ⟨i + 1, HI.out, rfl, rfl, HKX.out.trans HK8.out, ⟨ao, c, L, M, p, by rw [HMX.out, dtM_len], HPX.out.kept HK8.out⟩⟩
          | false =>
            have e0 : ¬ most ≤ 0 := of_decide_eq_false hm0
            have q1 : ¬ most < (mx : Int) := by have := HFT.out; omega
            clear e0
            go_wp2_with fail
            refine HSM.out.mono ?_
            rintro e wy ⟨rfl, k8⟩
            go_wp2_with fail
            refine (HTL.out wy k8).mono ?_
            rintro e w9 ⟨rfl, rfl⟩
            have HK8 := Lib.hid k8
            clear k8
            go_wp2
            go_roundg (n - (i + 1))
            case measure => have := HI.out; omega
            case rel => exact ⟨i + 1, HI.out, rfl, rfl, HKX.out.trans HK8.out, ⟨ao, c, L, M, p, by rw [HMX.out, dtM_len], HPX.out.kept HK8.out⟩⟩
        · have z0 : (kd == 0) = false := beq_eq_false_iff_ne.2 h0
          have z1 : (kd == 1) = false := beq_eq_false_iff_ne.2 h1
          have z3 : (kd == 3) = false := beq_eq_false_iff_ne.2 h3
          have HPX := Lib.hid (HP4.out.next)
          have HKX := HKW
          rw [HMM.out]
          clear h0 h1 h3
          obtain ⟨mx, hmx⟩ : ∃ mx, mx = (dtM M).length := ⟨_, rfl⟩
          rw [← hmx]
          have HSM := Lib.hid (HPX.out.same (Nat.succ_le_of_lt HI60.out) c)
          rw [← hmx] at HSM
          have HMX : Hid (mx = (M).length) := Lib.hid (by rw [hmx, dtM_len])
          have HFT := Lib.hid HPX.out.fit
          rw [← HMX.out] at HFT
          clear hmx
          have HTL := Lib.hid (fun w' (k : Kept (fun _ => False) w4 w') => tLen_any w.heap.size tb mb L M most p w' (HPX.out.kept k).t)
          rw [← HMX.out] at HTL
          cases hm0 : decide (most ≤ 0) with
          | true =>
            have e0 : most ≤ 0 := of_decide_eq_true hm0
            have q0 : mx = 0 := by have := HFT.out; omega
            have q1 : ¬ (0 : Int) < (mx : Int) := by omega
            clear q0 e0
            go_wp2_with fail
            refine HSM.out.mono ?_
            rintro e w8 ⟨rfl, k8⟩
            go_wp2_with fail
            refine (HTL.out w8 k8).mono ?_
            rintro e w9 ⟨rfl, rfl⟩
            have HK8 := Lib.hid k8
            clear k8
            go_wp2
            go_roundg (n - (i + 1))
            case measure => have := HI.out; omega
            case rel => exact ⟨i + 1, HI.out, rfl, rfl, HKX.out.trans HK8.out, ⟨ao, c, L, M, p, by rw [HMX.out, dtM_len], HPX.out.kept HK8.out⟩⟩
          | false =>
            have e0 : ¬ most ≤ 0 := of_decide_eq_false hm0
            have q1 : ¬ most < (mx : Int) := by have := HFT.out; omega
            clear e0
            go_wp2_with fail
            refine HSM.out.mono ?_
            rintro e w8 ⟨rfl, k8⟩
            go_wp2_with fail
            refine (HTL.out w8 k8).mono ?_
            rintro e w9 ⟨rfl, rfl⟩
            have HK8 := Lib.hid k8
            clear k8
            go_wp2
            go_roundg (n - (i + 1))
            case measure => have := HI.out; omega
            case rel => exact ⟨i + 1, HI.out, rfl, rfl, HKX.out.trans HK8.out, ⟨ao, c, L, M, p, by rw [HMX.out, dtM_len], HPX.out.kept HK8.out⟩⟩
      · obtain rfl : i = n := by omega
        have hdi : ¬ (i : Int) < (i : Int) := by omega
        have HTC := Lib.hid (tClone_any w.heap.size tb mb L M most p wr HKR.out.size HP.out.t)
        clear hp hkr hmm hin hd
        go_wp2_with fail
        refine HTC.out.mono ?_
        rintro e w6 ⟨tc, mc, rfl, ht6, k6, htc, hmc⟩
        have HSM := Lib.hid (same14_any w.heap.size tc mc L M most p ao c w6 ht6 (HP.out.d.kept k6) HP.out.fit (by have := HP.out.len; have := H60.out.1; omega) HP.out.sz)
        rw [← HMM.out] at HSM
        have HK6 := Lib.hid k6
        clear ht6 k6 htc hmc
        go_wp2_with fail
        refine HSM.out.mono ?_
        rintro e w7 ⟨rfl, k7⟩
        have HK7 := Lib.hid ((HKR.out.trans HK6.out).trans k7)
        clear k7
        go_wp2
        go_ret
        exact ⟨rfl, HK7.out⟩
end Go.Proofs.Ytoppcohgjmghdaa
