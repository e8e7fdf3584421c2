/- Layer 30: the walk of WireReads. -/
import Derived.Test.YtdgpeganmgcjiaaY19
namespace Go.Proofs.Ytdgpeganmgcjiaa
open Go.RowKit
attribute [local go_sem ↓] Go.wp_at_zero Go.wp_at_succ

theorem decA_nil (k : Nat) (acc : List FR) (t : Nat) (l : List Nat) (h : (decA k acc t l).2.2 ≠ 0) : (decA k acc t l).1 = [] := by
  induction k generalizing acc t l with
  | zero => exact absurd rfl h
  | succ k ih =>
    unfold decA at h ⊢
    by_cases h0 : l.length = 0
    · rw [if_pos h0] at h; exact absurd rfl h
    · rw [if_neg h0] at h ⊢
      by_cases h1 : (fieldW l).2.2 ≠ 0
      · rw [if_pos h1]
      · rw [if_neg h1] at h ⊢; exact ih _ _ _ h

set_option maxHeartbeats 4000000 in
set_option maxRecDepth 100000 in
theorem wireReads_walk0 (bo : Option Addr) (cb : Nat) (bl : List Nat) (W : World) (hb : By W bo cb bl) (hl : bl.length ≤ 1000) :
    Calls Try.prog 4 #[.slice bo bl.length cb] W fun e w' => e = .returned (.bool true) ∧ Kept (fun _ => False) W w' := by
  have HAW := Lib.hid (awake30_any W)
  obtain ⟨R, T, E, hR⟩ : ∃ R T E, decM bl = (R, T, E) := ⟨_, _, _, rfl⟩
  have HD1 := Lib.hid fun w' (k : Kept (fun _ => False) W w') => wDecode_any bo cb bl w' (hb.kept k) (by omega) R T E hR
  have HD2 := Lib.hid fun w' (k : Kept (fun _ => False) W w') => rDecode_any bo cb bl w' (hb.kept k) (by omega) R T E hR
  unfold RDecGot at HD2
  have HCB := Lib.hid fun w' (k : Kept (fun _ => False) W w') => (hb.kept k).conv
  have HG := Lib.hid (show E = 0 → encE R = 0 ∧ encB R = bl ∧ R.length ≤ 1000 ∧ ∀ r ∈ R, r.b.length ≤ 1000 by
    intro e
    have h := decA_got bl.length [] 0 bl (Nat.le_refl _) hb.lt (by omega)
    unfold decM at hR
    rw [hR] at h
    obtain ⟨_, m, e1, e2, e3, e4⟩ := h e
    simp only [List.nil_append] at e1
    subst e1
    have h0 : encE R = 0 := (encE_zero R).2 fun r hr => (e4 r hr).2.1
    exact ⟨h0, by rw [encB_ok h0, e2], by omega, fun r hr => by have := (e4 r hr).2.2; omega⟩)
  have HRL := Lib.hid (show R.length ≤ 1000000 by
    by_cases h : E = 0
    · have := (HG.out h).2.2.1; omega
    · have h2 : R = [] := by
        have h3 := decA_nil bl.length [] 0 bl
        unfold decM at hR
        rw [hR] at h3
        exact h3 h
      rw [h2]; simp)
  obtain ⟨n, hn⟩ : ∃ n, n = bl.length := ⟨_, rfl⟩
  have HN := Lib.hid hn
  obtain ⟨SB, hSB⟩ : ∃ s, s = strN bl := ⟨_, rfl⟩
  have HSB := Lib.hid hSB
  rw [← hn] at HD1 HD2 HCB ⊢
  rw [← hSB] at HCB
  have n1 : ¬ (1000 : Int) < (n : Int) := by omega
  clear hb hl hR hn hSB
  go_enter Try.func4, Try.ntmps4
  go_wp2_with fail
  refine HAW.out.mono ?_
  rintro e w1 ⟨rfl, k1⟩
  have K1 := Lib.hid k1
  clear k1
  go_wp2_with fail
  refine (HD1.out _ K1.out).mono ?_
  rintro e w2 ⟨M1, a1, c1, hm1, rfl, hmi⟩
  have HM1 := Lib.hid hmi
  have HR1 := Lib.hid hm1
  have K2 := Lib.hid (K1.out.trans hmi.kept)
  clear hm1 hmi
  go_wp2_with fail
  refine (HD2.out _ K2.out).mono ?_
  rintro e w3 ⟨M2, a2, c2, hm2, rfl, hat, hk3⟩
  have K4 := Lib.hid ((K2.out.trans hk3).alloc (.cells #[.slice a2 M2.length c2, .int .i64 (T : Int), .int .i64 (E : Int)] 33))
  have HF1 := Lib.hid ((HM1.out.on (hk3.alloc (.cells #[.slice a2 M2.length c2, .int .i64 (T : Int), .int .i64 (E : Int)] 33))).at_)
  have HF2 := Lib.hid (hat.kept ((Kept.refl (fun _ => False) w3).alloc (.cells #[.slice a2 M2.length c2, .int .i64 (T : Int), .int .i64 (E : Int)] 33)))
  have HB4 := Lib.hid (heap_alloc_new w3 (.cells #[.slice a2 M2.length c2, .int .i64 (T : Int), .int .i64 (E : Int)] 33))
  obtain ⟨w4, hw4⟩ : ∃ w', w' = w3.alloc (.cells #[.slice a2 M2.length c2, .int .i64 (T : Int), .int .i64 (E : Int)] 33) := ⟨_, rfl⟩
  obtain ⟨q, hq⟩ : ∃ x, x = w3.heap.size := ⟨_, rfl⟩
  rw [← hw4] at K4 HF1 HF2 HB4
  rw [← hq] at HB4
  have HW4 := Lib.hid hw4
  have HQ := Lib.hid hq
  have HS := Lib.hid (same30_any a1 a2 c1 c2 M1 M2 w4 HF1.out HF2.out (by rw [HR1.out, hm2]) (by have := HRL.out; have h := congrArg List.length HR1.out; simp only [recsR, List.length_map] at h; omega))
  clear hm2 hat hk3 hw4 hq
  go_upto_region 7 with fail
  rw [← HW4.out, ← HQ.out]
  have hbx := box3 HB4.out
  obtain ⟨l1, hl1⟩ : ∃ n, n = M1.length := ⟨_, rfl⟩
  obtain ⟨l2, hl2⟩ : ∃ n, n = M2.length := ⟨_, rfl⟩
  have HL1 := Lib.hid hl1
  rw [← hl1, ← hl2] at HS
  rw [← hl2] at hbx HB4
  rw [← hl1, ← hl2]
  clear hl1 hl2
  have et : ((T : Int) != (T : Int)) = false := by simp
  have ee : ((E : Int) != (E : Int)) = false := by simp
  go_wp2_with fail
  refine HS.out.mono ?_
  rintro e w5 ⟨rfl, k5⟩
  have HB5 := Lib.hid (k5.same HB4.out (fun x => x))
  have K5 := Lib.hid (K4.out.trans k5)
  have HF5 := Lib.hid (HF1.out.kept k5)
  have hbx5 := box3 HB5.out
  clear hbx k5
  by_cases hE : E = 0
  · subst hE
    obtain ⟨g1, g2, g3, g4⟩ := HG.out rfl
    have HE := Lib.hid (wEncode_any a1 c1 M1 w5 HF5.out (by have h := congrArg List.length HR1.out; simp only [recsR, List.length_map] at h; omega) (fun p hp => g4 p.r (by rw [← HR1.out]; exact List.mem_map.2 ⟨p, hp, rfl⟩)) bl 0 (by rw [HR1.out]; exact g1) (by rw [HR1.out]; exact g2))
    rw [← HL1.out, ← HN.out] at HE
    clear g1 g2 g3 g4
    go_wp2_with fail
    refine HE.out.mono ?_
    rintro e w6 ⟨a6, c6, rfl, hm6⟩
    have q1 := mine_conv hm6
    have q2 := HCB.out _ (K5.out.trans hm6.kept)
    rw [← HSB.out] at q1
    have K6 := Lib.hid (K5.out.trans hm6.kept)
    clear hm6
    go_wp2
    go_ret
    exact ⟨rfl, K6.out⟩
  · have e0 : ((E : Int) != 0) = true := bneT (by omega)
    clear hE
    go_wp2
    go_ret
    exact ⟨rfl, K5.out⟩

set_option maxHeartbeats 1000000 in
theorem wireReads_walk (bo : Option Addr) (bn cb : Nat) (bs : List Int) (W : World) (hb : IsRow .u8 W bo bn cb bs) :
    Calls Try.prog 4 #[.slice bo bn cb] W fun e w' => e = .returned (.bool true) ∧ Kept (fun _ => False) W w' := by
  obtain ⟨bl, hbl, hbb, hbs⟩ := hb.slAtN 256 wf_u8
  have hcap := (isRow_cap hb).1
  subst hbl
  by_cases h : bl.length ≤ 1000
  · exact wireReads_walk0 bo cb bl W ⟨hbs, hcap, hbb⟩ h
  · have HA := Lib.hid (awake30_any W)
    obtain ⟨n, hn⟩ : ∃ n, n = bl.length := ⟨_, rfl⟩
    rw [← hn] at h ⊢
    have n1 : (1000 : Int) < (n : Int) := by omega
    clear hb hbb hbs hcap hn h
    go_enter Try.func4, Try.ntmps4
    go_wp2_with fail
    refine HA.out.mono ?_
    rintro e w1 ⟨rfl, K1⟩
    have HK1 := Lib.hid K1
    clear K1
    go_wp2
    go_ret
    exact ⟨rfl, HK1.out⟩
end Go.Proofs.Ytdgpeganmgcjiaa
