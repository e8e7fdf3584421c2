/- Layer 23: the walk of NetBytes. -/
import Derived.Test.YtkidbbmdlmnokaaUC
import Derived.Test.YtkidbbmdlmnokaaU8
import Derived.Test.YtkidbbmdlmnokaaUE
namespace Go.Proofs.Ytkidbbmdlmnokaa
open Go.RowKit
attribute [local go_sem ↓] Go.wp_at_zero Go.wp_at_succ

theorem read_byte {l : List Int} (hb : ∀ x ∈ l, 0 ≤ x ∧ x < 256) : (∀ x ∈ (readS l).2.b, 0 ≤ x ∧ x < 256) ∧ (readS l).2.b.length ≤ 65536 := by
  by_cases h : (readS l).1 = 0
  · have h2 : readS l = (0, (readS l).2) := Prod.ext h rfl
    obtain ⟨h3, _, h4⟩ := msg_very hb h2
    exact ⟨h4, right_len h3⟩
  · have h2 : (readS l).2 = tl0 := by
      unfold readS at h ⊢
      split
      · rename_i hc
        rw [if_pos hc] at h
        unfold finE at h ⊢
        split
        · rfl
        · rename_i hc2; rw [if_neg hc2] at h; exact absurd rfl h
      · rename_i hc
        rw [if_neg hc] at h
        unfold finE at h ⊢
        split
        · rfl
        · rename_i hc2; rw [if_neg hc2] at h; exact absurd rfl h
    rw [h2]
    exact ⟨by simp [tl0], by simp [tl0]⟩
theorem msgE_byte {t : Tl} (hb : ∀ x ∈ t.b, 0 ≤ x ∧ x < 256) : (∀ x ∈ (msgE t).2, 0 ≤ x ∧ x < 256) ∧ (msgE t).2.length ≤ 1000000 := by
  unfold msgE
  split
  · rename_i h
    refine ⟨fun x hx => ?_, by have := msgB_len h; show (msgB t).length ≤ _; omega⟩
    have hl := right_len h
    unfold msgB at hx
    dsimp only at hx
    split at hx
    · rename_i ha
      have hh : rightB t = true := h
      unfold rightB at hh
      rw [if_pos ha] at hh
      have hh := of_decide_eq_true hh
      rcases List.mem_append.1 hx with h1 | h1
      · simp only [List.mem_singleton] at h1; omega
      · exact numB_byte _ hh.1 (by omega) x h1
    · rcases List.mem_append.1 hx with h1 | h1
      · rcases List.mem_append.1 h1 with h2 | h2
        · simp only [List.mem_singleton] at h2; omega
        · exact numB_byte _ (by omega) (by omega) x h2
      · exact hb x h1
  · exact ⟨by simp, by simp⟩
theorem ReadTo.parts {w w' : World} {r : Int × Tl} {e : Ending} (h : ReadTo w r e w') : ∃ (a : Option Addr) (n c : Nat), r.2.b.length = n ∧ e = .returned (.tuple #[.agg #[.bool r.2.ack, .int .i64 r.2.have_, .slice a n c], .int .i64 r.1]) ∧ SlAt w' (.slice a n c) (u8s r.2.b) ∧ Kept (fun _ => False) w w' := by
  obtain ⟨⟨xk, xh, xa, xc, xb⟩, rfl, hx, hat, hk⟩ := h
  unfold Mg.At at hat
  dsimp only at hat ⊢
  rw [← hx]
  exact ⟨xa, xb.length, xc, rfl, rfl, hat, hk⟩
theorem BuildTo.parts {w w' : World} {E : Int} {bs : List Int} {e : Ending} (h : BuildTo w (E, bs) e w') : ∃ v, e = .returned (.tuple #[v, .int .i64 E]) ∧ w'.ownsRow w.heap.size 5 1 v bs.length (u8s bs) ∧ Kept (fun _ => False) w w' := h
set_option maxHeartbeats 16000000 in
set_option maxRecDepth 100000 in
theorem netBytes_walk (ack : Bool) (hv : Int) (a : Option Addr) (n c : Nat) (b : List Int) (ab : Option Addr) (len cb : Nat) (zs : List Int) (W : World) (hs : b.length = n ∧ SlAt W (.slice a n c) (u8s b) ∧ (∀ x ∈ b, 0 ≤ x ∧ x < 256)) (h : IsRow .u8 W ab len cb zs) :
    Calls Try.prog 5 #[.agg #[.bool ack, .int .i64 hv, .slice a n c], .slice ab len cb] W fun e w' => e = .returned (.bool true) ∧ Kept (fun _ => False) W w' := by
  obtain ⟨l, hll, hvv, hcb, hb⟩ := h.bytes
  obtain ⟨hbn, hsl, hby⟩ := hs
  obtain ⟨wa, hwa⟩ : ∃ wa, wa = W.alloc (.cells #[.bool ack, .int .i64 hv, .slice a n c] 29) := ⟨_, rfl⟩
  obtain ⟨q2, hq2⟩ : ∃ q, q = W.heap.size := ⟨_, rfl⟩
  have ka : Kept (fun _ => False) W wa := by rw [hwa]; exact (Kept.refl _ _).alloc _
  have HMB : Hid (∀ w, Kept (fun _ => False) wa w → MB w q2 ack hv (.slice a n c)) := Lib.hid (fun w k => k.same (show MB wa q2 ack hv (.slice a n c) by rw [hwa, hq2]; exact heap_alloc_new W _) (fun x => x))
  have HSL : Hid (∀ w, Kept (fun _ => False) wa w → SlAt w (.slice a n c) (u8s b)) := Lib.hid (fun w k => (hsl.kept ka (fun _ _ x => x)).kept k (fun _ _ x => x))
  have HA := Lib.hid (awake23_any wa)
  have HKA := Lib.hid ka
  have HW := Lib.hid (And.intro hwa hq2)
  have HLL := Lib.hid hll
  clear h
  have hb2 : MB wa q2 ack hv (.slice a n c) := HMB.out wa (Kept.refl _ _)
  clear hwa hq2
  go_enter Try.func5, Try.ntmps5
  go_upto_region 1 with fail
  rw [← HW.out.1, ← HW.out.2]
  go_wp2_with fail
  refine HA.out.mono ?_
  rintro e w1 ⟨rfl, k1⟩
  have HK1 := Lib.hid k1
  obtain ⟨b0, b1, b2⟩ := (HMB.out w1 k1).c
  by_cases h3 : 3000 < n
  · have q1 : (3000 : Int) < (n : Int) := by omega
    have q1' : decide (3000 < n) = true := decide_eq_true h3
    clear k1 hb2 hll hvv hcb hb hbn hsl hby ka h3
    go_wp2
    go_ret
    exact ⟨rfl, HKA.out.trans HK1.out⟩
  have q1 : ¬ (3000 : Int) < (n : Int) := by omega
  have q1' : decide (3000 < n) = false := decide_eq_false h3
  by_cases h4 : 3000 < len
  · have p2 : (3000 : Int) < (len : Int) := by omega
    have p2' : decide (3000 < len) = true := decide_eq_true h4
    clear k1 hb2 hll hvv hcb hb hbn hsl hby ka h3 h4
    go_wp2
    go_ret
    exact ⟨rfl, HKA.out.trans HK1.out⟩
  have p2 : ¬ (3000 : Int) < (len : Int) := by omega
  have p2' : decide (3000 < len) = false := decide_eq_false h4
  have HBY : Hid (∀ w, Kept (fun _ => False) wa w → Calls Try.prog 26 #[.agg #[.bool ack, .int .i64 hv, .slice a n c]] w fun e w' => BuildTo w (msgE ⟨ack, hv, b⟩) e w') := Lib.hid (fun w k => netBytes_any ack hv a n c b hbn w (HSL.out w k) (by omega) hby)
  have HRB : Hid (∀ w, Kept (fun _ => False) wa w → Calls Try.prog 27 #[.agg #[.bool ack, .int .i64 hv, .slice a n c]] w fun e w' => BuildTo w (msgE ⟨ack, hv, b⟩) e w') := Lib.hid (fun w k => refBytes23_any ack hv a n c b hbn w (HSL.out w k) (by omega) hby)
  have HRD : Hid (∀ w, Kept (fun _ => False) W w → Calls Try.prog 28 #[.slice ab len cb] w fun e w' => ReadTo w (readS l) e w') := Lib.hid (fun w k => by subst hll; exact netRead_any _ ab cb l w (hvv.kept k (fun _ _ x => x)) (by omega) hb)
  have HRR : Hid (∀ w, Kept (fun _ => False) W w → Calls Try.prog 29 #[.slice ab len cb] w fun e w' => ReadTo w (readS l) e w') := Lib.hid (fun w k => by subst hll; exact refRead23_any ab cb l w (hvv.kept k (fun _ _ x => x)) (by omega) hcb hb)
  have HCV : Hid (∀ w, Kept (fun _ => False) W w → (convert 27 9 (.slice ab len cb)).run Try.prog w = .ok (.string (strOfNums l)) w) := Lib.hid (fun w k => run_strI (by subst hll; exact (hvv.kept k (fun _ _ x => x)).slAt) 27 5 9 Try.underlying27 Try.underlying5 Try.underlying9)
  have HRBY := Lib.hid (read_byte hb)
  have HEBY := Lib.hid (msgE_byte (t := ⟨ack, hv, b⟩) hby)
  have HBACK : Hid ((msgE ⟨ack, hv, b⟩).1 = 0 → readS (msgE ⟨ack, hv, b⟩).2 = (0, ⟨ack, hv, b⟩)) := Lib.hid (fun h => by
    unfold msgE at h ⊢
    split
    · rename_i hr
      exact msg_back hr hby
    · rename_i hr
      rw [if_neg hr] at h
      simp at h)
  have HVERY : Hid ((readS l).1 = 0 → msgE (readS l).2 = (0, l)) := Lib.hid (fun h => by
    obtain ⟨h1, h2, _⟩ := msg_very hb (show readS l = (0, (readS l).2) from Prod.ext h rfl)
    unfold msgE
    rw [if_pos h1, h2])
  have HBYB := Lib.hid hby
  have HBN := Lib.hid hbn
  obtain ⟨M, hM⟩ : ∃ M, M = msgE ⟨ack, hv, b⟩ := ⟨_, rfl⟩
  obtain ⟨R, hR⟩ : ∃ R, R = readS l := ⟨_, rfl⟩
  rw [← hM] at HBY HRB HEBY HBACK
  rw [← hR] at HRD HRR HRBY HVERY
  obtain ⟨E, bs⟩ := M
  obtain ⟨G, ⟨tk, th, tb⟩⟩ := R
  dsimp only at HEBY HBACK HRBY HVERY
  have HK1W := Lib.hid (HKA.out.trans HK1.out)
  clear k1 hb2 hll hvv hcb hb hbn hsl hby ka h3 h4 hM hR
  go_wp2_with fail
  refine (HBY.out w1 HK1.out).mono ?_
  intro e w3 hbt
  obtain ⟨v3, rfl, o3, k3⟩ := hbt.parts
  have HO3 := Lib.hid o3
  have HK3 := Lib.hid (HK1.out.trans k3)
  clear hbt o3 k3 b0 b1 b2
  obtain ⟨b0, b1, b2⟩ := (HMB.out w3 HK3.out).c
  go_wp2_with fail
  refine (HRB.out w3 HK3.out).mono ?_
  intro e w4 hbt
  obtain ⟨v4, rfl, o4, k4⟩ := hbt.parts
  have HO4 := Lib.hid o4
  have HK4 := Lib.hid (HK3.out.trans k4)
  have HO34 := Lib.hid (k4.owns HO3.out (fun _ _ x => x))
  clear hbt o4 k4 b0 b1 b2
  go_wp2_with fail
  refine (HRD.out w4 (HKA.out.trans HK4.out)).mono ?_
  intro e w5 hrt
  obtain ⟨xa, xn, xc, hxn, rfl, hxs, k5⟩ := hrt.parts
  dsimp only at hxn hxs
  have HXN := Lib.hid hxn
  have HXS := Lib.hid hxs
  have HK5 := Lib.hid (HK4.out.trans k5)
  have HK45 := Lib.hid k5
  clear hrt hxn hxs k5
  obtain ⟨w6, hw6⟩ : ∃ w', w' = w5.alloc (.cells #[.bool tk, .int .i64 th, .slice xa xn xc] 29) := ⟨_, rfl⟩
  obtain ⟨q9, hq9⟩ : ∃ q, q = w5.heap.size := ⟨_, rfl⟩
  have k56 : Kept (fun _ => False) w5 w6 := by rw [hw6]; exact (Kept.refl _ _).alloc _
  have HB9 : Hid (∀ w, Kept (fun _ => False) w6 w → MB w q9 tk th (.slice xa xn xc)) := Lib.hid (fun w k => k.same (show MB w6 q9 tk th (.slice xa xn xc) by rw [hw6, hq9]; exact heap_alloc_new w5 _) (fun x => x))
  have HW6 := Lib.hid (And.intro hw6 hq9)
  have HK6 := Lib.hid (HK5.out.trans k56)
  have HK46 := Lib.hid (HK45.out.trans k56)
  have HXS6 := Lib.hid (HXS.out.kept k56 (fun _ _ x => x))
  clear hw6 hq9 k56
  go_upto_region 8 with fail
  rw [← HW6.out.1, ← HW6.out.2]
  go_wp2_with fail
  refine (HRR.out w6 (HKA.out.trans HK6.out)).mono ?_
  intro e w7 hrt
  obtain ⟨ya, yn, yc, hyn, rfl, hys, k7⟩ := hrt.parts
  dsimp only at hyn hys ⊢
  have HYS := Lib.hid hys
  obtain ⟨w8, hw8⟩ : ∃ w', w' = w7.alloc (.cells #[.bool tk, .int .i64 th, .slice ya yn yc] 29) := ⟨_, rfl⟩
  obtain ⟨q11, hq11⟩ : ∃ q, q = w7.heap.size := ⟨_, rfl⟩
  have k78 : Kept (fun _ => False) w7 w8 := by rw [hw8]; exact (Kept.refl _ _).alloc _
  have HB11 : Hid (MB w8 q11 tk th (.slice ya yn yc)) := Lib.hid (by rw [hw8, hq11]; exact heap_alloc_new w7 _)
  have HW8 := Lib.hid (And.intro hw8 hq11)
  have HK68 := Lib.hid (k7.trans k78)
  have HYS8 := Lib.hid (HYS.out.kept k78 (fun _ _ x => x))
  clear hrt hyn hys hw8 hq11 k7 k78
  have HK48 := Lib.hid (HK46.out.trans HK68.out)
  have HK8 := Lib.hid (HK6.out.trans HK68.out)
  have HXS8 := Lib.hid (HXS6.out.kept HK68.out (fun _ _ x => x))
  have cv1 := run_str_own (HK48.out.owns HO34.out (fun _ _ x => x)) 27 5 9 Try.underlying27 Try.underlying5 Try.underlying9
  have cv2 := run_str_own (HK48.out.owns HO4.out (fun _ _ x => x)) 27 5 9 Try.underlying27 Try.underlying5 Try.underlying9
  obtain ⟨sx, hsx⟩ : ∃ x, x = strOfNums bs := ⟨_, rfl⟩
  rw [← hsx] at cv1 cv2
  have qs : (sx.toList != sx.toList) = false := by simp
  have qe : (E != E) = false := by simp
  have qg : (G != G) = false := by simp
  have HSA := Lib.hid (refSame_any tk th xa xn xc tb tk th ya yn yc tb w8 HXS8.out HYS8.out HRBY.out.1 HRBY.out.1)
  rw [show decide ((⟨tk, th, tb⟩ : Tl) = ⟨tk, th, tb⟩) = true from decide_eq_true rfl] at HSA
  clear hsx
  obtain ⟨c0, c1, c2⟩ := (HB9.out w8 HK68.out).c
  obtain ⟨d0, d1, d2⟩ := HB11.out.c
  go_upto_region 9 with fail
  rw [← HW8.out.1, ← HW8.out.2]
  go_wp2_with fail
  refine HSA.out.mono ?_
  rintro e w9 ⟨rfl, k9⟩
  have HK9 := Lib.hid (HK8.out.trans k9)
  have HK69 := Lib.hid (HK68.out.trans k9)
  have HK49 := Lib.hid (HK48.out.trans k9)
  have HXS9 := Lib.hid (HXS8.out.kept k9 (fun _ _ x => x))
  clear k9 c0 c1 c2 d0 d1 d2 cv1 cv2 qs qe
  go_upto_region 11 with fail
  clear qg
  go_upto_if 70 with fail
  go_cut [] (fun wc => Kept (fun _ => False) w9 wc)
  case first =>
    by_cases he : E = 0
    · have q3 : (E == (0 : Int)) = true := beqT he
      have hback := HBACK.out he
      have HRX : Hid (Calls Try.prog 28 #[v3] w9 fun e w' => ReadTo w9 (0, ⟨ack, hv, b⟩) e w') := Lib.hid (by
        obtain ⟨ao, cc, hsa, _⟩ := SliceAt.ofOwn (HK49.out.owns HO34.out (fun _ _ x => x))
        rw [← hback]
        exact netRead_any v3 ao cc bs w9 hsa (by have := HEBY.out.2; omega) HEBY.out.1)
      clear he hback
      go_wp2_with fail
      refine HRX.out.mono ?_
      intro e w10 hrt
      obtain ⟨za, zn, zc, hzn, rfl, hzs, k10⟩ := hrt.parts
      dsimp only at hzn hzs ⊢
      obtain ⟨w11, hw11⟩ : ∃ w', w' = w10.alloc (.cells #[.bool ack, .int .i64 hv, .slice za zn zc] 29) := ⟨_, rfl⟩
      obtain ⟨q13, hq13⟩ : ∃ q, q = w10.heap.size := ⟨_, rfl⟩
      have k11 : Kept (fun _ => False) w10 w11 := by rw [hw11]; exact (Kept.refl _ _).alloc _
      have HB13 : Hid (MB w11 q13 ack hv (.slice za zn zc)) := Lib.hid (by rw [hw11, hq13]; exact heap_alloc_new w10 _)
      have HW11 := Lib.hid (And.intro hw11 hq13)
      have HK911 := Lib.hid (k10.trans k11)
      have HSM := Lib.hid (refSame_any ack hv za zn zc b ack hv a n c b w11 (hzs.kept k11 (fun _ _ x => x)) (HSL.out w11 (HK9.out.trans HK911.out)) HBYB.out HBYB.out)
      rw [show decide ((⟨ack, hv, b⟩ : Tl) = ⟨ack, hv, b⟩) = true from decide_eq_true rfl] at HSM
      have HB2 := Lib.hid (HMB.out w11 (HK9.out.trans HK911.out))
      clear hrt hzn hzs k10 k11 hw11 hq13
      go_upto_region 13 with fail
      rw [← HW11.out.1, ← HW11.out.2]
      obtain ⟨c0, c1, c2⟩ := HB13.out.c
      obtain ⟨d0, d1, d2⟩ := HB2.out.c
      go_wp2_with fail
      refine HSM.out.mono ?_
      rintro e w12 ⟨rfl, k12⟩
      have HK12 := Lib.hid (HK911.out.trans k12)
      clear k12
      go_wp2
      go_meet
      case rel => exact HK12.out
    · have q3 : (E == (0 : Int)) = false := beqF he
      clear he
      go_wp2
      go_meet
      case rel => exact Kept.refl _ _
  case rest =>
    have HKC := Lib.hid hcut
    clear hcut
    by_cases hg : G = 0
    · have q3 : (G != (0 : Int)) = false := bneF hg
      have hvery := HVERY.out hg
      have HP := Lib.hid (netBytes_any tk th xa xn xc tb HXN.out wc (HXS9.out.kept HKC.out (fun _ _ x => x)) (by have := HXN.out; have := HRBY.out.2; omega) HRBY.out.1)
      rw [hvery] at HP
      obtain ⟨c0, c1, c2⟩ := (HB9.out wc (HK69.out.trans HKC.out)).c
      clear hg hvery
      go_wp2_with fail
      refine HP.out.mono ?_
      intro e w13 hbt
      obtain ⟨v13, rfl, o13, k13⟩ := hbt.parts
      have HK13 := Lib.hid (HK9.out.trans (HKC.out.trans k13))
      have cv1 := run_str_own o13 27 5 9 Try.underlying27 Try.underlying5 Try.underlying9
      have cv2 := HCV.out w13 (HKA.out.trans HK13.out)
      obtain ⟨sy, hsy⟩ : ∃ x, x = strOfNums l := ⟨_, rfl⟩
      rw [← hsy] at cv1 cv2
      have qs : (sy.toList == sy.toList) = true := by simp
      clear hbt o13 k13 hsy c0 c1 c2
      go_wp2
      go_ret
      exact ⟨rfl, HKA.out.trans HK13.out⟩
    · have q3 : (G != (0 : Int)) = true := bneT hg
      clear hg
      go_wp2
      go_ret
      exact ⟨rfl, HKA.out.trans (HK9.out.trans HKC.out)⟩
end Go.Proofs.Ytkidbbmdlmnokaa
