/- Layer 23: the document's Bytes and Read. -/
import Derived.Test.YtkidbbmdlmnokaaUA
import Derived.BigRegion
namespace Go.Proofs.Ytkidbbmdlmnokaa
open Go.RowKit
attribute [local go_sem ↓] Go.wp_at_zero Go.wp_at_succ

theorem look_one_n {l : List Int} {n : Nat} {v : Int} (hb : ∀ x ∈ l, 0 ≤ x ∧ x < 256) (h : lookF l 0 = (v, n, 0)) (hv : v ≤ 1) : n = 1 ∧ 1 ≤ l.length ∧ 0 ≤ v := by
  obtain ⟨h1, h2, _, h4, h5, h6⟩ := look_num l 0 n v hb h
  have hl := congrArg List.length h1
  rw [List.length_take, List.length_drop, numB_length] at hl
  have : oth v = 0 := by
    have hc : v = 0 ∨ v = 1 := by omega
    rcases hc with rfl | rfl <;> decide
  omega
theorem rs_e {l : List Int} {v e : Int} {n : Nat} (h : lookF l 0 = (v, n, e)) (he : e ≠ 0) : readS l = (e, tl0) := by
  have hv := (look_fault l 0 n v e h he).1
  have hc : countF l 0 0 1 = (v, n, e) := by
    unfold countF lookE
    rw [if_pos rfl, h, if_neg (by simp [he])]
  unfold readS
  rw [hc]
  dsimp only
  rw [if_neg (by omega), text_fault (by rw [count_sticky he]; exact he), count_sticky he, doneF_e he, finE_e he]
theorem rs_v {l : List Int} {v : Int} {n : Nat} (h : lookF l 0 = (v, n, 0)) (hv : 1 < v) : readS l = (4, tl0) := by
  have hc : countF l 0 0 1 = (0, 0, 4) := by
    unfold countF lookE
    rw [if_pos rfl, h, if_pos ⟨rfl, .inr hv⟩]
  unfold readS
  rw [hc]
  dsimp only
  rw [if_neg (by decide), text_fault (by rw [count_sticky (by decide)]; decide), count_sticky (by decide), doneF_e (by decide), finE_e (by decide)]
section
variable {l : List Int} {n2 : Nat} {v2 e2 : Int}
theorem rs1_is (h : lookF l 0 = (1, 1, 0)) : readS l = finE (doneF l (1 + (countF l 1 0 4503599627370497).2.1) (countF l 1 0 4503599627370497).2.2) ⟨true, (countF l 1 0 4503599627370497).1, []⟩ := by
  unfold readS
  rw [count_ok h (by omega) (by omega)]
  dsimp only
  rw [if_pos rfl]
theorem rs0_is (h : lookF l 0 = (0, 1, 0)) : readS l = finE (doneF l (1 + (textF l 1 0 65536).2.1) (textF l 1 0 65536).2.2) ⟨false, 0, (textF l 1 0 65536).1⟩ := by
  unfold readS
  rw [count_ok h (by omega) (by omega)]
  dsimp only
  rw [if_neg (by omega)]
theorem rs1_e (h : lookF l 0 = (1, 1, 0)) (h2 : lookF l 1 = (v2, n2, e2)) (he : e2 ≠ 0) : readS l = (e2, tl0) := by
  rw [rs1_is h, count_err h2 he, doneF_e he, finE_e he]
theorem rs1_v (h : lookF l 0 = (1, 1, 0)) (h2 : lookF l 1 = (v2, n2, 0)) (hv : 4503599627370497 < v2) : readS l = (4, tl0) := by
  rw [rs1_is h, count_ko h2 hv, doneF_e (by decide), finE_e (by decide)]
theorem rs1_f (h : lookF l 0 = (1, 1, 0)) (h2 : lookF l 1 = (v2, n2, 0)) (h0 : 0 ≤ v2) (hv : v2 ≤ 4503599627370497) (hl : 1 + n2 ≠ l.length) : readS l = (3, tl0) := by
  rw [rs1_is h, count_ok h2 h0 hv]
  dsimp only
  rw [doneF_more hl, finE_e (by decide)]
theorem rs1_ok (h : lookF l 0 = (1, 1, 0)) (h2 : lookF l 1 = (v2, n2, 0)) (h0 : 0 ≤ v2) (hv : v2 ≤ 4503599627370497) (hl : 1 + n2 = l.length) : readS l = (0, ⟨true, v2, []⟩) := by
  rw [rs1_is h, count_ok h2 h0 hv]
  dsimp only
  rw [doneF_end hl, finE_0]
theorem rs0_bad (h : lookF l 0 = (0, 1, 0)) {e : Int} (hc : (countF l 1 0 65536).2.2 = e) (he : e ≠ 0) : readS l = (e, tl0) := by
  rw [rs0_is h, text_fault (by rw [hc]; exact he), hc, doneF_e he, finE_e he]
theorem rs0_e (h : lookF l 0 = (0, 1, 0)) (h2 : lookF l 1 = (v2, n2, e2)) (he : e2 ≠ 0) : readS l = (e2, tl0) := rs0_bad h (count_err h2 he) he
theorem rs0_v (h : lookF l 0 = (0, 1, 0)) (h2 : lookF l 1 = (v2, n2, 0)) (hv : 65536 < v2) : readS l = (4, tl0) := rs0_bad h (count_ko h2 hv) (by decide)
theorem rs0_s {m : Nat} (h : lookF l 0 = (0, 1, 0)) (h2 : lookF l 1 = ((m : Int), n2, 0)) (hv : m ≤ 65536) (hl : l.length < 1 + n2 + m) : readS l = (2, tl0) := by
  have ht : textF l 1 0 65536 = ([], 0, 2) := by
    unfold textF
    rw [count_ok h2 (by omega) (by omega)]
    dsimp only
    have : nextF l (1 + n2) 0 (m : Int) = ([], 0, 2) := by
      unfold nextF
      rw [if_neg (by simp), if_neg (by omega), if_pos (by omega)]
    rw [this, if_pos (by simp)]
  rw [rs0_is h, ht, doneF_e (by decide), finE_e (by decide)]
theorem rs0_t {m : Nat} (h2 : lookF l 1 = ((m : Int), n2, 0)) (hv : m ≤ 65536) (hl : 1 + n2 + m ≤ l.length) : textF l 1 0 65536 = ((l.drop (1 + n2)).take m, n2 + m, 0) := by
  unfold textF
  rw [count_ok h2 (by omega) (by omega)]
  dsimp only
  have : nextF l (1 + n2) 0 (m : Int) = ((l.drop (1 + n2)).take m, m, 0) := by
    unfold nextF
    rw [if_neg (by simp), if_neg (by omega), if_neg (by omega), Int.toNat_natCast]
  rw [this, if_neg (by simp)]
theorem rs0_f {m : Nat} (h : lookF l 0 = (0, 1, 0)) (h2 : lookF l 1 = ((m : Int), n2, 0)) (hv : m ≤ 65536) (hl : 1 + n2 + m < l.length) : readS l = (3, tl0) := by
  rw [rs0_is h, rs0_t h2 hv (by omega)]
  dsimp only
  rw [doneF_more (by omega), finE_e (by decide)]
theorem rs0_ok {m : Nat} (h : lookF l 0 = (0, 1, 0)) (h2 : lookF l 1 = ((m : Int), n2, 0)) (hv : m ≤ 65536) (hl : 1 + n2 + m = l.length) : readS l = (0, ⟨false, 0, l.drop (1 + n2)⟩) := by
  rw [rs0_is h, rs0_t h2 hv (by omega)]
  dsimp only
  rw [doneF_end (by omega), finE_0, List.take_of_length_le (by rw [List.length_drop]; omega)]
end
set_option maxHeartbeats 4000000 in
set_option maxRecDepth 100000 in
theorem refBytes23_any (ack : Bool) (hv : Int) (a : Option Addr) (n c : Nat) (b : List Int) (hbn : b.length = n) (w : World) (hs : SlAt w (.slice a n c) (u8s b)) (hl : n ≤ 1000000) (hby : ∀ x ∈ b, 0 ≤ x ∧ x < 256) :
    Calls Try.prog 27 #[.agg #[.bool ack, .int .i64 hv, .slice a n c]] w fun e w' => BuildTo w (msgE ⟨ack, hv, b⟩) e w' := by
  obtain ⟨iI, hiI, hzI0, hzI1, hzI2⟩ := info_parts Try.info5
  obtain ⟨wa, hwa⟩ : ∃ wa, wa = w.alloc (.cells #[.bool ack, .int .i64 hv, .slice a n c] 29) := ⟨_, rfl⟩
  obtain ⟨q1, hq1⟩ : ∃ q, q = w.heap.size := ⟨_, rfl⟩
  have ka : Kept (fun _ => False) w wa := by rw [hwa]; exact (Kept.refl _ _).alloc _
  have HB1 : Hid (MB wa q1 ack hv (.slice a n c)) := Lib.hid (by rw [hwa, hq1]; exact heap_alloc_new w _)
  have HSA := Lib.hid (hs.kept ka (fun _ _ x => x))
  have HK := Lib.hid ka
  have HW := Lib.hid (And.intro hwa hq1)
  have HRT := Lib.hid (fun w => refRight_any ack hv a c b w)
  have HBN := Lib.hid hbn
  have HLN := Lib.hid hl
  have HSB := Lib.hid (strB_strOf hby)
  rw [hbn] at HRT
  obtain ⟨b10, b11, b12⟩ := HB1.out.c
  obtain ⟨R, hR⟩ : ∃ R, R = rightB ⟨ack, hv, b⟩ := ⟨_, rfl⟩
  rw [← hR] at HRT
  have HR := Lib.hid hR
  clear hwa hq1 ka hs hbn hby hl hR
  cases R with
  | false =>
    have HX : Hid (msgE ⟨ack, hv, b⟩ = (1, [])) := Lib.hid (if_neg (by rw [← HR.out]; decide))
    go_enter Try.func27, Try.ntmps27
    go_upto_region 1 with fail
    rw [← HW.out.1, ← HW.out.2]
    go_wp2_with fail
    refine (HRT.out _).mono ?_
    rintro e w2 ⟨rfl, k2⟩
    have HK2 := Lib.hid (HK.out.trans k2)
    clear k2
    go_wp2
    go_ret2
    rw [HX.out]
    exact ⟨_, rfl, World.ownsRow_nil _ _ _ _, HK2.out⟩
  | true =>
    have HX : Hid (msgE ⟨ack, hv, b⟩ = (0, msgB ⟨ack, hv, b⟩)) := Lib.hid (if_pos HR.out.symm)
    go_enter Try.func27, Try.ntmps27
    go_upto_region 1 with fail
    rw [← HW.out.1, ← HW.out.2]
    go_wp2_with fail
    refine (HRT.out _).mono ?_
    rintro e w2 ⟨rfl, k2⟩
    have HK2 := Lib.hid (HK.out.trans k2)
    have HB2 : Hid (MB w2 q1 ack hv (.slice a n c)) := Lib.hid (k2.same HB1.out (fun x => x))
    have HS2 := Lib.hid (HSA.out.kept k2 (fun _ _ x => x))
    clear k2 b10 b11 b12
    obtain ⟨b10, b11, b12⟩ := HB2.out.c
    have b11a := fun o => Lib.cell?_alloc_some o b11
    have b12a := fun o => Lib.cell?_alloc_some o b12
    cases ack with
    | true =>
      have hre2 := of_decide_eq_true (show decide (0 ≤ hv ∧ hv ≤ 4503599627370497 ∧ b.length = 0) = true from HR.out.symm)
      have wh : IntKind.u64.wrap hv = hv := wrap_u64_of _ hre2.1 (by omega)
      have HM1 : Hid (Mine w2 (w2.alloc (.cells #[.int .u8 1] 5)) 5 (.slice (some ⟨w2.heap.size, 0, none⟩) 1 1) (u8s [1])) := Lib.hid ⟨⟨rfl, .inr ⟨w2.heap.size, 1, #[.int .u8 1], rfl, Nat.le_refl _, heap_alloc_new w2 _, Nat.le_refl _, by unfold maxLen; omega, rfl, rfl⟩⟩, (Kept.refl _ _).alloc _⟩
      have HNUM := Lib.hid (refNum_any hv (w2.alloc (.cells #[.int .u8 1] 5)) hre2.1 (by omega))
      have HL2 := Lib.hid (numB_len hv)
      clear hre2
      go_wp2_with fail
      refine HNUM.out.mono ?_
      rintro e w3 ⟨v3, rfl, ho3, k3⟩
      have HM3 := Lib.hid (HM1.out.on k3)
      have hs3 := (SlAt.ofOwn ho3).src Try.underlying27 (u8s_one _)
      have HS3 := Lib.hid hs3
      clear ho3 k3 hs3
      go_wp2_with (at_builtin; refine wpList_mine rfl (.tmp 9) (.tmp 13) _ _ rfl 5 iI (.int .u8 0) 1 Try.underlying27 hiI hzI0 hzI1 hzI2 rfl (by omega) w2 _ (u8s [1]) rfl HM3.out _ (u8s (numB hv)) rfl HS3.out (by have := HL2.out; simp; omega) ?_; intro v' w4 hm; have HM := Lib.hid hm; clear hm)
      go_ret2
      rw [HX.out]
      have hm := HM.out
      have e1 : u8s [1] ++ u8s (numB hv) = u8s (msgB ⟨true, hv, b⟩) := by unfold msgB u8s; rw [if_pos rfl, List.map_append]
      rw [e1] at hm
      refine ⟨_, rfl, ?_, HK2.out.trans hm.kept⟩
      have ho := wown_base hm.own HK2.out.size
      have e2 : (u8s (msgB ⟨true, hv, b⟩)).length = (msgB ⟨true, hv, b⟩).length := by simp
      rw [e2] at ho
      exact ho
    | false =>
      have hre2 := of_decide_eq_true (show decide (hv = 0 ∧ b.length ≤ 65536) = true from HR.out.symm)
      have HM1 : Hid (Mine w2 (w2.alloc (.cells #[.int .u8 0] 5)) 5 (.slice (some ⟨w2.heap.size, 0, none⟩) 1 1) (u8s [0])) := Lib.hid ⟨⟨rfl, .inr ⟨w2.heap.size, 1, #[.int .u8 0], rfl, Nat.le_refl _, heap_alloc_new w2 _, Nat.le_refl _, by unfold maxLen; omega, rfl, rfl⟩⟩, (Kept.refl _ _).alloc _⟩
      have cv := run_strI (P := Try.prog) (HS2.out.kept ((Kept.refl (fun _ => False) w2).alloc (.cells #[.int .u8 0] 5)) (fun _ _ x => x)) 27 5 9 Try.underlying27 Try.underlying5 Try.underlying9
      obtain ⟨x, hx⟩ : ∃ x, x = strOfNums b := ⟨_, rfl⟩
      rw [← hx] at cv HSB
      have hxs : x.size = n := by rw [hx, strOf_size, HBN.out]
      have HTX := Lib.hid (refText_any x (w2.alloc (.cells #[.int .u8 0] 5)) (by rw [hxs]; have := HLN.out; omega))
      rw [HSB.out, hxs] at HTX
      have HL2 := Lib.hid (show (numB (n : Nat) ++ b).length ≤ 2000000 by rw [List.length_append, HBN.out]; have := numB_len ((n : Nat) : Int); have := HLN.out; omega)
      obtain ⟨nb, hnb⟩ : ∃ nb, nb = numB (n : Nat) ++ b := ⟨_, rfl⟩
      rw [← hnb] at HTX HL2
      have HNB := Lib.hid hnb
      clear hre2 hx hxs hnb
      go_wp2_with fail
      refine HTX.out.mono ?_
      rintro e w3 ⟨v3, rfl, ho3, k3⟩
      have HM3 := Lib.hid (HM1.out.on k3)
      have hs3 := (SlAt.ofOwn ho3).src Try.underlying27 (u8s_one _)
      have HS3 := Lib.hid hs3
      clear ho3 k3 hs3 cv
      go_wp2_with (at_builtin; refine wpList_mine rfl (.tmp 15) (.tmp 19) _ _ rfl 5 iI (.int .u8 0) 1 Try.underlying27 hiI hzI0 hzI1 hzI2 rfl (by omega) w2 _ (u8s [0]) rfl HM3.out _ (u8s nb) rfl HS3.out (by have := HL2.out; simp; omega) ?_; intro v' w4 hm; have HM := Lib.hid hm; clear hm)
      go_ret2
      rw [HX.out]
      have hm := HM.out
      have e1 : u8s [0] ++ u8s nb = u8s (msgB ⟨false, hv, b⟩) := by unfold msgB u8s; rw [if_neg (by simp), HNB.out]; dsimp only; rw [HBN.out]; simp
      rw [e1] at hm
      refine ⟨_, rfl, ?_, HK2.out.trans hm.kept⟩
      have ho := wown_base hm.own HK2.out.size
      have e2 : (u8s (msgB ⟨false, hv, b⟩)).length = (msgB ⟨false, hv, b⟩).length := by simp
      rw [e2] at ho
      exact ho
end Go.Proofs.Ytkidbbmdlmnokaa
