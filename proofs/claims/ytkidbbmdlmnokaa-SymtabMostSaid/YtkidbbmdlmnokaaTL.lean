/- Layer 34: the document's Open. -/
import Derived.Test.YtkidbbmdlmnokaaTK
namespace Go.Proofs.Ytkidbbmdlmnokaa
open Go.RowKit
attribute [local go_sem ↓] Go.wp_at_zero Go.wp_at_succ

theorem open_e {l : List Int} {v : Int} {n : Nat} {e : Int} (h : lookF l 0 = (v, n, e)) (he : e ≠ 0) : openS l = (e, []) := by
  have hv := (look_fault l 0 n v e h he).1
  have hc : countF l 0 0 4096 = (v, n, e) := by
    unfold countF lookE
    rw [if_pos rfl, h, if_neg (by simp [he])]
  unfold openS
  rw [hc, hv]
  show (doneF l n e, []) = _
  unfold doneF
  rw [if_pos he]
theorem open_v {l : List Int} {v : Int} {n : Nat} (h : lookF l 0 = (v, n, 0)) (hv : 4096 < v) : openS l = (4, []) := by
  have hc : countF l 0 0 4096 = (0, 0, 4) := by
    unfold countF lookE
    rw [if_pos rfl, h, if_pos ⟨rfl, .inr hv⟩]
  unfold openS
  rw [hc]
  show (doneF l 0 4, []) = _
  unfold doneF
  rw [if_pos (by decide)]
theorem open_ok {l : List Int} {k : Nat} {n : Nat} (h : lookF l 0 = ((k : Int), n, 0)) (hv : k ≤ 4096) : openS l = opnL l k 0 n 0 ByteArray.empty := by
  unfold openS
  rw [count_ok h (by omega) (by omega)]
  rfl
set_option maxHeartbeats 16000000 in
set_option maxRecDepth 100000 in
theorem ropen_any (ab : Option Addr) (cb : Nat) (l : List Int) (w : World) (hv : SliceAt w (.slice ab l.length cb) ab l.length cb (u8s l)) (hl : l.length ≤ 1000000000) (hcb : l.length ≤ cb) (hb : ∀ x ∈ l, 0 ≤ x ∧ x < 256) :
    Calls Try.prog 38 #[.slice ab l.length cb] w fun e w' => DocTo w (openS l) e w' := by
  have HG : Hid (∀ (t : Nat) (w' : World), Kept (fun _ => False) w w' → t ≤ l.length → ∀ (v : Int) (n : Nat) (e : Int), lookF l t = (v, n, e) →
      Calls Try.prog 60 #[.slice ab l.length cb, .int .i64 (t : Int)] w' fun e' w'' => e' = .returned (.agg #[.int .u64 v, .int .i64 (n : Int), .int .i64 e]) ∧ Kept (fun _ => False) w' w'') := Lib.hid (fun t w' k ht v n e h => by
    have := getNum_any (.slice ab l.length cb) ab cb l t w' (hv.kept k (fun _ _ x => x)) hb (by omega) ht
    rw [h] at this
    exact this)
  have HU : Hid (∀ w', Kept (fun _ => False) w w' → SlAt w' (.slice ab l.length cb) (u8s l)) := Lib.hid (fun w' k => hv.slAt.kept k (fun _ _ x => x))
  have HNUM := Lib.hid (fun (t : Nat) (v : Int) (n : Nat) (h : lookF l t = (v, n, 0)) => look_num l t n v hb h)
  obtain ⟨i0, hi, hz0, hz1, hz2⟩ := info_parts Try.info5
  have HCUT := Lib.hid (fun (lo hi' : Nat) (h1 : lo ≤ hi') (h2 : hi' ≤ cb) (w : World) => run_cut (P := Try.prog) Try.underlying27 hi hz1 ab l.length cb lo hi' h1 h2 w)
  have HCUTA := Lib.hid (fun (lo hi' : Nat) (h1 : lo ≤ hi') (h2 : hi' ≤ cb) (w : World) => run_cutAt (P := Try.prog) Try.underlying27 hi hz1 ab l.length cb lo hi' h1 h2 w)
  have HL := Lib.hid (And.intro hl hcb)
  obtain ⟨v0, n0, e0, hr0⟩ : ∃ v n e, lookF l 0 = (v, n, e) := ⟨_, _, _, rfl⟩
  obtain ⟨w0, hw0⟩ : ∃ w0, w0 = w.alloc (.cells #[.slice none 0 0, .int .i64 0] 59) := ⟨_, rfl⟩
  obtain ⟨q, hq⟩ : ∃ q, q = w.heap.size := ⟨_, rfl⟩
  have k0 : Kept (fun _ => False) w w0 := by rw [hw0]; exact (Kept.refl _ _).alloc _
  have hb0 : RB34 w0 q (.slice none 0 0) 0 := by rw [hw0, hq]; exact heap_alloc_new w _
  have HW0 := Lib.hid (And.intro hw0 hq)
  have HB0 := Lib.hid (And.intro hb0 (And.intro k0 (show w.heap.size ≤ q by omega)))
  have HC0 := Lib.hid (HG.out 0 w0 k0 (Nat.zero_le _) v0 n0 e0 hr0)
  have HR0 := Lib.hid hr0
  have HN0 := Lib.hid (lookF_taken l 0 (Nat.zero_le _))
  clear hv hl hcb hb hi hz0 hz1 hz2 hw0 hq k0 hb0 hr0
  go_enter Try.func38, Try.ntmps38
  go_upto_region 1 with fail
  rw [← HW0.out.1, ← HW0.out.2]
  go_wp2_with fail
  refine HC0.out.mono ?_
  rintro e w1 ⟨rfl, k1⟩
  obtain ⟨w2, hw2⟩ : ∃ w2, w2 = w1.alloc (.cells #[.int .u64 v0, .int .i64 (n0 : Int), .int .i64 e0] 90) := ⟨_, rfl⟩
  obtain ⟨g, hg⟩ : ∃ g, g = w1.heap.size := ⟨_, rfl⟩
  have k2 : Kept (fun _ => False) w1 w2 := by rw [hw2]; exact (Kept.refl _ _).alloc _
  have kw2 : Kept (fun _ => False) w w2 := HB0.out.2.1.trans (k1.trans k2)
  have HD2 : Hid (DS w w2 g q (v0, n0, e0) [] none 0) := Lib.hid ⟨by rw [hw2, hg]; exact heap_alloc_new w1 _, (k1.trans k2).same HB0.out.1 (fun x => x), Mine.nil' _ kw2, by rw [hg]; exact (HB0.out.2.1.trans k1).size, HB0.out.2.2⟩
  have HW2 := Lib.hid (And.intro hw2 hg)
  clear hw2 hg k2 kw2 k1
  go_upto_region 2 with fail
  rw [← HW2.out.1, ← HW2.out.2]
  obtain ⟨c0, c1, c2⟩ := HD2.out.gg.c
  dsimp only at c0 c1 c2
  obtain ⟨b0, b1⟩ := HD2.out.rb.c
  have f0 := HD2.out.rb.fz 0
  have f1 := HD2.out.rb.fz 1
  by_cases he : e0 = 0
  · by_cases hv0 : 4096 < v0
    · have q2 : (4096 : Int) < v0 := hv0
      have q2' : decide ((4096 : Int) < v0) = true := decide_eq_true hv0
      have q1 : (e0 != (0 : Int)) = false := bneF he
      have HE : Hid (openS l = (4, [])) := Lib.hid (open_v (by rw [HR0.out, he]) hv0)
      clear he hv0
      go_wp2
      try simp only [Exit.inBlock, Exit.then]
      exact HD2.out.bad 4 _ HE.out Try.results38 rfl rfl
    · have q2 : ¬ (4096 : Int) < v0 := hv0
      have q2' : decide ((4096 : Int) < v0) = false := decide_eq_false hv0
      have q1 : (e0 != (0 : Int)) = false := bneF he
      have hv00 := (HNUM.out 0 v0 n0 (by rw [HR0.out, he])).2.1
      obtain ⟨k, hk⟩ : ∃ k : Nat, v0 = (k : Int) := ⟨v0.toNat, by omega⟩
      have wk : IntKind.i64.wrap v0 = (k : Int) := by rw [IntWalk.i64_in _ ⟨by omega, by omega⟩, hk]
      have HX : Hid (openS l = opnL l k 0 n0 0 ByteArray.empty) := Lib.hid (open_ok (by rw [HR0.out, he, hk]) (by omega))
      have HK := Lib.hid (show k ≤ 4096 by omega)
      clear he hv0 hv00 hk
      go_upto_region 11 with fail
      clear c0 c1 c2 b0 b1 f0 f1 q1 q2 q2' wk
      go_loopg [8, 5, 6, 7] k (fun G s8 s5 s6 s7 wr => ∃ i : Nat, i ≤ k ∧ G = k - i ∧ s8 = .int .i64 i ∧ ∃ t a acc ao cp r, s5 = .int .i64 ((t : Nat) : Int) ∧ s6 = .slice ao (List.length acc) cp ∧ s7 = .string a ∧ a.size ≤ 400 ∧ t ≤ l.length ∧ acc.length = i ∧ DS w wr g q r acc ao cp ∧ openS l = preL acc (opnL l (k - i) i t 0 a))
      case atStart => exact ⟨0, Nat.zero_le _, rfl, rfl, n0, ByteArray.empty, [], none, 0, _, rfl, rfl, rfl, by decide, by have := HN0.out; rw [HR0.out, Nat.zero_add] at this; exact this, rfl, HD2.out, by rw [HX.out, Nat.sub_zero, preL_nil (opnL_err _ _ _ _ _ _)]⟩
      case round =>
        obtain ⟨i, hin, rfl, rfl, t, a, acc, ao, cp, r, rfl, rfl, rfl, ha, htl, hal, hds, hop⟩ := hrel
        have HD := Lib.hid hds
        have HA := Lib.hid (And.intro ha (And.intro htl hal))
        have HP := Lib.hid hop
        clear hds hop ha htl hal
        obtain ⟨m0, hm0⟩ : ∃ m, m = acc.length := ⟨_, rfl⟩
        rw [← hm0]
        have HM0 := Lib.hid hm0
        clear hm0
        by_cases hd : i < k
        · have hdi : (i : Int) < (k : Int) := by omega
          have HI := Lib.hid hd
          have wi : IntKind.i64.wrap ((i : Int) + 1) = ((i + 1 : Nat) : Int) := by rw [IntWalk.i64_in _ ⟨by omega, by have := HK.out; omega⟩]; omega
          have HF : Hid ((nxR l i t 0 a).2 ≠ 0 → openS l = ((nxR l i t 0 a).2, [])) := Lib.hid (fun h => by rw [HP.out, show k - i = (k - i - 1) + 1 by omega, opnL_fault h, preL_bad _ h])
          have HT : Hid ((nxR l i t 0 a).2 = 0 → openS l = preL (acc ++ [(nxR l i t 0 a).1]) (opnL l (k - (i + 1)) (i + 1) (endR l t 0) (txtR l t 0).2.2 (nxR l i t 0 a).1)) := Lib.hid (fun h => by rw [HP.out, show k - i = (k - (i + 1)) + 1 by omega, opnL_step h, preL_preL])
          obtain ⟨v1, n1, e1, hr1⟩ : ∃ v n e, lookF l t = (v, n, e) := ⟨_, _, _, rfl⟩
          have HR1 := Lib.hid hr1
          have HC1 := Lib.hid (HG.out t wr HD.out.own.kept HA.out.2.1 v1 n1 e1 hr1)
          have HT1 : Hid (t + n1 ≤ l.length) := Lib.hid (by have := lookF_taken l t HA.out.2.1; rw [hr1] at this; exact this)
          clear hr1 hd hin
          go_upto_region 13 with fail
          go_wp2_with fail
          refine HC1.out.mono ?_
          rintro e w3 ⟨rfl, k3⟩
          have HD3 := Lib.hid (HD.out.kept k3)
          clear k3
          have g0 := HD3.out.gg.fz 0
          have g1 := HD3.out.gg.fz 1
          have g2 := HD3.out.gg.fz 2
          obtain ⟨gc0, gc1, gc2⟩ := HD3.out.gg.c
          go_upto_region 14 with fail
          clear g0 g1 g2 gc0 gc1 gc2
          obtain ⟨w4, hw4⟩ : ∃ w4, w4 = ((w3.setCell ⟨g, 0, none⟩ (.int .u64 v1)).setCell ⟨g, 1, none⟩ (.int .i64 (n1 : Int))).setCell ⟨g, 2, none⟩ (.int .i64 e1) := ⟨_, rfl⟩
          rw [← hw4]
          have HD4 : Hid (DS w w4 g q (v1, n1, e1) acc ao cp) := Lib.hid (by rw [hw4]; exact HD3.out.got (v1, n1, e1))
          clear hw4
          obtain ⟨c0, c1, c2⟩ := HD4.out.gg.c
          dsimp only at c0 c1 c2
          obtain ⟨b0, b1⟩ := HD4.out.rb.c
          have f0 := HD4.out.rb.fz 0
          have f1 := HD4.out.rb.fz 1
          by_cases he : e1 = 0
          · have q1 : (e1 != (0 : Int)) = false := bneF he
            have HR2 : Hid (lookF l t = (v1, n1, 0)) := Lib.hid (by rw [HR1.out, he])
            clear he
            by_cases hv1 : 400 < v1
            · have q2' : decide ((400 : Int) < v1) = true := decide_eq_true hv1
              have HE : Hid (openS l = (4, [])) := Lib.hid (by have h := nx_v1 (i := i) (a := a) HR2.out hv1; have := HF.out (by rw [h]; decide); rwa [h] at this)
              go_wp2
              try simp only [Exit.inBlock, Exit.then]
              exact HD4.out.bad 4 _ HE.out Try.results38 rfl rfl
            · have q2' : decide ((400 : Int) < v1) = false := decide_eq_false hv1
              have hv10 := (HNUM.out t v1 n1 HR2.out).2.1
              obtain ⟨c, hc⟩ : ∃ c : Nat, v1 = (c : Int) := ⟨v1.toNat, by omega⟩
              have wc : IntKind.i64.wrap v1 = (c : Int) := by rw [IntWalk.i64_in _ ⟨by omega, by omega⟩, hc]
              have wt : IntKind.i64.wrap ((t : Int) + (n1 : Int)) = ((t + n1 : Nat) : Int) := by rw [IntWalk.i64_in _ ⟨by omega, by have := HT1.out; have := HL.out.1; omega⟩]; omega
              have HV := Lib.hid (show (0 ≤ v1 ∧ v1 ≤ 400) ∧ v1 = (c : Int) ∧ v1.toNat = c ∧ c ≤ 400 by omega)
              obtain ⟨v2, n2, e2, hr2⟩ : ∃ v n e, lookF l (t + n1) = (v, n, e) := ⟨_, _, _, rfl⟩
              have HRB := Lib.hid hr2
              have HC2 := Lib.hid (HG.out (t + n1) w4 HD4.out.own.kept HT1.out v2 n2 e2 hr2)
              have HT2 : Hid (t + n1 + n2 ≤ l.length) := Lib.hid (by have := lookF_taken l (t + n1) HT1.out; rw [hr2] at this; exact this)
              obtain ⟨t1, ht1⟩ : ∃ t1, t1 = t + n1 := ⟨_, rfl⟩
              rw [← ht1] at HC2 wt
              have HE1 := Lib.hid ht1
              clear hr2 hv10 hc ht1
              go_upto_region 20 with fail
              clear wc wt q1 q2' hv1 f0 f1 b0 b1 c0 c1 c2
              go_wp2_with fail
              refine HC2.out.mono ?_
              rintro e w5 ⟨rfl, k5⟩
              have HD5 := Lib.hid (HD4.out.kept k5)
              clear k5
              have g0 := HD5.out.gg.fz 0
              have g1 := HD5.out.gg.fz 1
              have g2 := HD5.out.gg.fz 2
              obtain ⟨gc0, gc1, gc2⟩ := HD5.out.gg.c
              go_upto_region 21 with fail
              clear g0 g1 g2 gc0 gc1 gc2
              obtain ⟨w6, hw6⟩ : ∃ w6, w6 = ((w5.setCell ⟨g, 0, none⟩ (.int .u64 v2)).setCell ⟨g, 1, none⟩ (.int .i64 (n2 : Int))).setCell ⟨g, 2, none⟩ (.int .i64 e2) := ⟨_, rfl⟩
              rw [← hw6]
              have HD6 : Hid (DS w w6 g q (v2, n2, e2) acc ao cp) := Lib.hid (by rw [hw6]; exact HD5.out.got (v2, n2, e2))
              clear hw6
              obtain ⟨c0, c1, c2⟩ := HD6.out.gg.c
              dsimp only at c0 c1 c2
              obtain ⟨b0, b1⟩ := HD6.out.rb.c
              have f0 := HD6.out.rb.fz 0
              have f1 := HD6.out.rb.fz 1
              by_cases he2 : e2 = 0
              · have q1 : (e2 != (0 : Int)) = false := bneF he2
                have HR3 : Hid (lookF l (t + n1) = (v2, n2, 0)) := Lib.hid (by rw [HRB.out, he2])
                clear he2
                by_cases hv2 : 400 < v2
                · have q2' : decide ((400 : Int) < v2) = true := decide_eq_true hv2
                  have HE : Hid (openS l = (4, [])) := Lib.hid (by have h := nx_v2 (i := i) (a := a) HR2.out HV.out.1.1 HV.out.1.2 HR3.out hv2; have := HF.out (by rw [h]; decide); rwa [h] at this)
                  go_wp2
                  try simp only [Exit.inBlock, Exit.then]
                  exact HD6.out.bad 4 _ HE.out Try.results38 rfl rfl
                · have q2' : decide ((400 : Int) < v2) = false := decide_eq_false hv2
                  have hv20 := (HNUM.out (t + n1) v2 n2 HR3.out).2.1
                  obtain ⟨m, hm⟩ : ∃ m : Nat, v2 = (m : Int) := ⟨v2.toNat, by omega⟩
                  have wm : IntKind.i64.wrap v2 = (m : Int) := by rw [IntWalk.i64_in _ ⟨by omega, by omega⟩, hm]
                  obtain ⟨t2, ht2⟩ : ∃ t2, t2 = t1 + n2 := ⟨_, rfl⟩
                  obtain ⟨z, hz⟩ : ∃ z, z = l.length - t2 := ⟨_, rfl⟩
                  have HB := Lib.hid (show t2 = t + n1 + n2 ∧ t2 ≤ l.length ∧ z = l.length - t2 ∧ v2 = (m : Int) ∧ m ≤ 400 ∧ l.length ≤ 1000000000 ∧ l.length ≤ cb by have h1 := HE1.out; have h2 := HT2.out; have h3 := HL.out; refine ⟨by omega, by omega, hz, hm, by omega, h3.1, h3.2⟩)
                  have wt : IntKind.i64.wrap ((t1 : Int) + (n2 : Int)) = (t2 : Int) := by rw [IntWalk.i64_in _ ⟨by omega, by have := HB.out; omega⟩]; omega
                  have wz : IntKind.i64.wrap ((l.length : Int) - (t2 : Int)) = (z : Int) := by rw [IntWalk.i64_in _ ⟨by have := HB.out; omega, by have := HB.out; omega⟩]; have := HB.out; omega
                  clear hv2 hv20 hm ht2 hz
                  by_cases hs : z < m
                  · have q3 : (z : Int) < (m : Int) := by omega
                    have q3' : decide (z < m) = true := decide_eq_true hs
                    have HE : Hid (openS l = (2, [])) := Lib.hid (by have hb := HB.out; have h := nx_short (i := i) (a := a) HR2.out HV.out.1.1 HV.out.1.2 HR3.out (by omega) (by omega) (by omega); have := HF.out (by rw [h]; decide); rwa [h] at this)
                    clear hs
                    go_wp2
                    try simp only [Exit.inBlock, Exit.then]
                    exact HD6.out.bad 2 _ HE.out Try.results38 rfl rfl
                  · have q3 : ¬ (z : Int) < (m : Int) := by omega
                    have q3' : decide (z < m) = false := decide_eq_false hs
                    obtain ⟨t3, ht3⟩ : ∃ t3, t3 = t2 + m := ⟨_, rfl⟩
                    have wt3 : IntKind.i64.wrap ((t2 : Int) + (m : Int)) = (t3 : Int) := by rw [IntWalk.i64_in _ ⟨by omega, by have := HB.out; omega⟩]; omega
                    obtain ⟨x, hx⟩ : ∃ x, x = strOfNums ((l.drop t2).take m) := ⟨_, rfl⟩
                    have HNX : Hid (nxR l i t 0 a = nxtS i a c x 0 ∧ (txtR l t 0).2.2 = 0 ∧ endR l t 0 = t3) := Lib.hid (by
                      have hb := HB.out
                      have h := nx_ok (i := i) (a := a) (m := m) HR2.out HV.out.1.1 HV.out.1.2 (by rw [HR3.out, hb.2.2.2.1]) hb.2.2.2.2.1 (by omega)
                      rw [HV.out.2.2.1, ← hb.1, ← hx, ← ht3] at h
                      exact h)
                    have HF2 : Hid ((nxtS i a c x 0).2 ≠ 0 → openS l = ((nxtS i a c x 0).2, [])) := Lib.hid (by have := HF.out; rwa [HNX.out.1] at this)
                    have HT3 : Hid ((nxtS i a c x 0).2 = 0 → openS l = preL (acc ++ [(nxtS i a c x 0).1]) (opnL l (k - (i + 1)) (i + 1) t3 0 (nxtS i a c x 0).1)) := Lib.hid (by have := HT.out; rwa [HNX.out.2.1, HNX.out.2.2, HNX.out.1] at this)
                    obtain ⟨N, hN⟩ : ∃ N, N = nxtS i a c x 0 := ⟨_, rfl⟩
                    rw [← hN] at HF2 HT3
                    have HN := Lib.hid hN
                    have hcut := HCUT.out t2 t3 (by omega) (by have := HB.out; omega)
                    have hcutA := HCUTA.out t2 t3 (by omega) (by have := HB.out; omega)
                    have hsl := (HU.out w6 HD6.out.own.kept).cut (lo := t2) (hi := t3) (by omega) (by have := HB.out; omega) (by have := HB.out; omega)
                    rw [show t3 - t2 = m by omega] at hcut hcutA hsl
                    obtain ⟨ax, has⟩ : ∃ ax, ax = (if cb = t2 then ab else ab.map (·.add t2)) := ⟨_, rfl⟩
                    obtain ⟨cs, hcs⟩ : ∃ cs, cs = cb - t2 := ⟨_, rfl⟩
                    rw [← has, ← hcs] at hcut hcutA hsl
                    have hsl2 : SlAt w6 (.slice ax m cs) (u8s ((l.drop t2).take m)) := by
                      unfold u8s at hsl ⊢
                      rw [List.map_take, List.map_drop]; exact hsl
                    have hcv := run_strI (P := Try.prog) hsl2 27 5 9 Try.underlying27 Try.underlying5 Try.underlying9
                    rw [← hx] at hcv
                    have HXS : Hid (x.size ≤ 400) := Lib.hid (by rw [hx, strOf_size, List.length_take]; have := HB.out; omega)
                    have HT3L : Hid (t3 ≤ l.length) := Lib.hid (by have := HB.out; omega)
                    clear hs ht3 hx hN hsl hsl2 has hcs
                    go_upto_region 30 with fail
                    clear wm wt wz wt3 hcut hcutA hcv q1 q2' q3 q3'
                    by_cases hns : c ≤ a.size
                    · have r1 : ¬ (a.size : Int) < (c : Int) := by omega
                      have r1' : decide (a.size < c) = false := decide_eq_false (by omega)
                      have hcut := run_toT (P := Try.prog) Try.underlying9 a c hns
                      have hns2 : (c : Int) ≤ (a.size : Int) := by omega
                      obtain ⟨y, hy⟩ : ∃ y, y = a.extract 0 c := ⟨_, rfl⟩
                      rw [← hy] at hcut
                      obtain ⟨s, hs⟩ : ∃ s, s = y ++ x := ⟨_, rfl⟩
                      have a1 : ∀ w, (Op.stringOp .add y x).run Try.prog w = .ok (.string s) w := fun w => by
                        rw [hs]; exact run_string_add_sum w _ _ (by have h1 : y.size ≤ a.size := by rw [hy, ByteArray.size_extract]; omega
                                                                    have := HA.out.1; have := HXS.out; omega)
                      have HNN : Hid (N = if 400 < s.size then (ByteArray.empty, 4) else if 0 < i ∧ leS s a = true then (ByteArray.empty, 9) else if c ≠ shr i a s then (ByteArray.empty, 3) else (s, 0)) := Lib.hid (by
                        rw [HN.out]; unfold nxtS; rw [if_neg (by simp), if_neg (by omega), ← hy, ← hs])
                      clear hs hy hns
                      by_cases hbig : 400 < s.size
                      · have HE : Hid (openS l = (4, [])) := Lib.hid (by have h : N = (ByteArray.empty, 4) := by rw [HNN.out, if_pos hbig]
                                                                         have := HF2.out (by rw [h]; decide); rwa [h] at this)
                        have q4 : (400 : Int) < (s.size : Int) := by omega
                        have q4' : decide (400 < s.size) = true := decide_eq_true hbig
                        clear hbig
                        go_wp2
                        try simp only [Exit.inBlock, Exit.then]
                        exact HD6.out.bad 4 _ HE.out Try.results38 rfl rfl
                      · have q4 : ¬ (400 : Int) < (s.size : Int) := by omega
                        have q4' : decide (400 < s.size) = false := decide_eq_false hbig
                        by_cases hor : 0 < i ∧ leS s a = true
                        · have HE : Hid (openS l = (9, [])) := Lib.hid (by have h : N = (ByteArray.empty, 9) := by rw [HNN.out, if_neg hbig, if_pos hor]
                                                                           have := HF2.out (by rw [h]; decide); rwa [h] at this)
                          have q5 : (0 : Int) < (i : Int) := by have := hor.1; omega
                          have q6 : (Op.bytesLess s.toList a.toList || s.toList == a.toList) = true := hor.2
                          clear hbig hor
                          go_wp2
                          try simp only [Exit.inBlock, Exit.then]
                          exact HD6.out.bad 9 _ HE.out Try.results38 rfl rfl
                        · have HZ : Hid (N = if c ≠ shr i a s then (ByteArray.empty, 3) else (s, 0)) := Lib.hid (by rw [HNN.out, if_neg hbig, if_neg hor])
                          have HS := Lib.hid (fun w => rshared_any i a s w (by have := HI.out; have := HK.out; omega) (by have := HA.out.1; omega) (by omega))
                          have HSS := Lib.hid (show s.size ≤ 400 by omega)
                          obtain ⟨v, hv⟩ : ∃ v, v = shr i a s := ⟨_, rfl⟩
                          rw [← hv] at HS HZ
                          have horc : (¬ (0 : Int) < (i : Int)) ∨ ((0 : Int) < (i : Int) ∧ (Op.bytesLess s.toList a.toList || s.toList == a.toList) = false) := by
                            by_cases h0 : 0 < i
                            · refine .inr ⟨by omega, ?_⟩
                              show leS s a = false
                              rw [← Bool.not_eq_true]
                              exact fun e => hor ⟨h0, e⟩
                            · exact .inl (by omega)
                          clear hbig hor hv
                          rcases horc with q5 | ⟨q5, q6⟩
                          all_goals
                            go_wp2_with fail
                            refine (HS.out _).mono ?_
                            rintro e5 w7 ⟨rfl, k7⟩
                            have HD7 := Lib.hid (HD6.out.kept k7)
                            clear k7 c0 c1 c2 b0 b1 f0 f1
                            obtain ⟨c0, c1, c2⟩ := HD7.out.gg.c
                            dsimp only at c0 c1 c2
                            obtain ⟨b0, b1⟩ := HD7.out.rb.c
                            have f0 := HD7.out.rb.fz 0
                            have f1 := HD7.out.rb.fz 1
                            by_cases hnv : c = v
                            · have HY : Hid (N = (s, 0)) := Lib.hid (by rw [HZ.out, if_neg (by simp [hnv])])
                              have q7 : ((c : Int) != (v : Int)) = false := bneF (by omega)
                              have q7' : (c != v) = false := by simp [hnv]
                              have HT4 : Hid (openS l = preL (acc ++ [s]) (opnL l (k - (i + 1)) (i + 1) t3 0 s)) := Lib.hid (by have := HT3.out (by rw [HY.out]); rwa [HY.out] at this)
                              have HM := Lib.hid (HD7.out.own.alloc (.cells #[.string s] 9))
                              have HSrc := Lib.hid (src_oneT w7 s)
                              rw [← HM0.out] at HM
                              clear hnv
                              go_wp2_with (at_builtin; refine wpList_mineT rfl (.tmp 123) (.tmp 125) rfl w _ acc rfl HM.out _ [s] rfl HSrc.out (by rw [strs_length, strs_length]; have := HA.out.2.2; have := HK.out; have := HI.out; simp; omega) ?_)
                              intro v' w8 hm8 k8 _
                              obtain ⟨a8, c8, rfl⟩ := hm8.slice
                              rw [strs_length] at hm8 ⊢
                              rw [HM0.out] at k8
                              have HD8 := Lib.hid (HD7.out.push s _ hm8 k8)
                              obtain ⟨m8, hm⟩ : ∃ m, m = (acc ++ [s]).length := ⟨_, rfl⟩
                              rw [← hm]
                              have HM8 := Lib.hid hm
                              clear hm8 k8 hm
                              go_wp2
                              go_roundg (k - (i + 1))
                              case measure => have := HI.out; omega
                              case rel => exact ⟨i + 1, HI.out, rfl, rfl, t3, s, acc ++ [s], a8, c8, _, rfl, by rw [HM8.out], rfl, HSS.out, HT3L.out, by rw [List.length_append, HA.out.2.2]; rfl, HD8.out, HT4.out⟩
                            · have HE : Hid (openS l = (3, [])) := Lib.hid (by have h : N = (ByteArray.empty, 3) := by rw [HZ.out, if_pos hnv]
                                                                               have := HF2.out (by rw [h]; decide); rwa [h] at this)
                              have q7 : ((c : Int) != (v : Int)) = true := bneT (by omega)
                              have q7' : (c != v) = true := by simp [hnv]
                              clear hnv
                              go_wp2
                              try simp only [Exit.inBlock, Exit.then]
                              exact HD7.out.bad 3 _ HE.out Try.results38 rfl rfl
                    · have HE : Hid (openS l = (3, [])) := Lib.hid (by have h : N = (ByteArray.empty, 3) := by rw [HN.out]; unfold nxtS; rw [if_neg (by simp), if_pos (by omega)]
                                                                       have := HF2.out (by rw [h]; decide); rwa [h] at this)
                      have r1 : (a.size : Int) < (c : Int) := by omega
                      have r1' : decide (a.size < c) = true := decide_eq_true (by omega)
                      clear hns
                      go_wp2
                      try simp only [Exit.inBlock, Exit.then]
                      exact HD6.out.bad 3 _ HE.out Try.results38 rfl rfl
              · have q1 : (e2 != (0 : Int)) = true := bneT he2
                have HE : Hid (openS l = (e2, [])) := Lib.hid (by have h := nx_e2 (i := i) (a := a) HR2.out HV.out.1.1 HV.out.1.2 HRB.out he2; have := HF.out (by rw [h]; exact he2); rwa [h] at this)
                clear he2
                go_wp2
                try simp only [Exit.inBlock, Exit.then]
                exact HD6.out.bad e2 _ HE.out Try.results38 rfl rfl
          · have q1 : (e1 != (0 : Int)) = true := bneT he
            have HE : Hid (openS l = (e1, [])) := Lib.hid (by have h := nx_e1 (i := i) (a := a) HR1.out he; have := HF.out (by rw [h]; exact he); rwa [h] at this)
            clear he
            go_wp2
            try simp only [Exit.inBlock, Exit.then]
            exact HD4.out.bad e1 _ HE.out Try.results38 rfl rfl
        · obtain rfl : i = k := by omega
          have hdi : ¬ (i : Int) < (i : Int) := by omega
          have HE := Lib.hid HP.out
          obtain ⟨c0, c1, c2⟩ := HD.out.gg.c
          obtain ⟨b0, b1⟩ := HD.out.rb.c
          have f0 := HD.out.rb.fz 0
          have f1 := HD.out.rb.fz 1
          clear hd hin
          by_cases hq : t < l.length
          · have HE2 : Hid (openS l = (3, [])) := Lib.hid (by
              rw [HE.out, Nat.sub_self]
              show preL acc (doneF l t 0, []) = _
              unfold doneF
              rw [if_neg (by simp), if_neg (by omega), preL_bad _ (by decide)])
            have q1 : (t : Int) < (l.length : Int) := by omega
            have q1' : decide (t < l.length) = true := decide_eq_true hq
            clear hq
            go_wp2
            try simp only [Exit.inBlock, Exit.then]
            exact HD.out.bad 3 _ HE2.out Try.results38 rfl rfl
          · have HE2 : Hid (openS l = (0, acc)) := Lib.hid (by
              rw [HE.out, Nat.sub_self]
              show preL acc (doneF l t 0, []) = _
              unfold doneF
              rw [if_neg (by simp), if_pos (by have := HA.out.2.1; omega), preL_good, List.append_nil])
            have q1 : ¬ (t : Int) < (l.length : Int) := by omega
            have q1' : decide (t < l.length) = false := decide_eq_false hq
            have HG2 := Lib.hid (fun fn p a' hres hp hdf => HD.out.good (fn := fn) (p := p) (a := a') _ HE2.out hres hp hdf)
            rw [← HM0.out] at HG2
            clear hq
            go_wp2
            try simp only [Exit.inBlock, Exit.then]
            exact HG2.out _ _ _ Try.results38 rfl rfl
  · have q1 : (e0 != (0 : Int)) = true := bneT he
    have HE : Hid (openS l = (e0, [])) := Lib.hid (open_e HR0.out he)
    clear he
    go_wp2
    try simp only [Exit.inBlock, Exit.then]
    exact HD2.out.bad e0 _ HE.out Try.results38 rfl rfl
end Go.Proofs.Ytkidbbmdlmnokaa
