/- Layer 23: what bytes are as a message, plainly; net.Read. -/
import Derived.Test.YtkidbbmdlmnokaaU7
import Derived.Test.YtkidbbmdlmnokaaNY
namespace Go.Proofs.Ytkidbbmdlmnokaa
open Go.RowKit
attribute [local go_sem ↓] Go.wp_at_zero Go.wp_at_succ

def tl0 : Tl := ⟨false, 0, []⟩
/-- The error, or the message. -/
def finE (E : Int) (t : Tl) : Int × Tl := if E ≠ 0 then (E, tl0) else (0, t)
def readS (l : List Int) : Int × Tl :=
  if (countF l 0 0 1).1 = 1 then finE (doneF l ((countF l 0 0 1).2.1 + (countF l (countF l 0 0 1).2.1 (countF l 0 0 1).2.2 4503599627370497).2.1) (countF l (countF l 0 0 1).2.1 (countF l 0 0 1).2.2 4503599627370497).2.2) ⟨true, (countF l (countF l 0 0 1).2.1 (countF l 0 0 1).2.2 4503599627370497).1, []⟩
  else finE (doneF l ((countF l 0 0 1).2.1 + (textF l (countF l 0 0 1).2.1 (countF l 0 0 1).2.2 65536).2.1) (textF l (countF l 0 0 1).2.1 (countF l 0 0 1).2.2 65536).2.2) ⟨false, 0, (textF l (countF l 0 0 1).2.1 (countF l 0 0 1).2.2 65536).1⟩
theorem finE_ok {E : Int} {t u : Tl} (h : finE E t = (0, u)) : E = 0 ∧ t = u := by
  unfold finE at h
  by_cases he : E = 0
  · rw [if_neg (by simp [he])] at h
    exact ⟨he, by simpa using h⟩
  · rw [if_pos he] at h
    simp only [Prod.mk.injEq] at h
    exact absurd h.1 he
theorem finE_0 (t : Tl) : finE 0 t = (0, t) := if_neg (by simp)
theorem finE_e {E : Int} (h : E ≠ 0) (t : Tl) : finE E t = (E, tl0) := if_pos h
theorem doneF_ok {l : List Int} {t : Nat} {e : Int} (h : doneF l t e = 0) : e = 0 ∧ t = l.length := by
  unfold doneF at h
  by_cases he : e = 0
  · rw [if_neg (by simp [he])] at h
    by_cases q : t = l.length
    · exact ⟨he, q⟩
    · rw [if_neg q] at h; simp at h
  · rw [if_pos he] at h; exact absurd h he
theorem doneF_e {l : List Int} {t : Nat} {e : Int} (h : e ≠ 0) : doneF l t e = e := if_pos h
theorem doneF_end {l : List Int} {t : Nat} (h : t = l.length) : doneF l t 0 = 0 := by unfold doneF; rw [if_neg (by simp), if_pos h]
theorem doneF_more {l : List Int} {t : Nat} (h : t ≠ l.length) : doneF l t 0 = 3 := by unfold doneF; rw [if_neg (by simp), if_neg h]
/-- A message that was put down is the one that is read. -/
theorem msg_back {t : Tl} (hr : rightB t = true) (hb : ∀ x ∈ t.b, 0 ≤ x ∧ x < 256) : readS (msgB t) = (0, t) := by
  obtain ⟨ack, hv, b⟩ := t
  cases ack with
  | true =>
    have h := of_decide_eq_true (show decide (0 ≤ hv ∧ hv ≤ 4503599627370497 ∧ b.length = 0) = true from hr)
    obtain rfl : b = [] := List.eq_nil_of_length_eq_zero h.2.2
    have e : msgB ⟨true, hv, []⟩ = numB 1 ++ numB hv := by unfold msgB; rw [if_pos rfl, numB_1]
    have c1 : countF (msgB ⟨true, hv, []⟩) 0 0 1 = (1, (numB 1).length, 0) := count_back _ (numB hv) 0 1 1 (by omega) (by omega) (by omega) (by rw [e, List.drop_zero])
    have c2 : countF (msgB ⟨true, hv, []⟩) (numB 1).length 0 4503599627370497 = (hv, (numB hv).length, 0) := count_back _ [] _ hv _ h.1 h.2.1 (by omega) (by rw [e, List.drop_left, List.append_nil])
    unfold readS
    rw [c1]
    dsimp only
    rw [if_pos rfl, c2]
    dsimp only
    rw [doneF_end (by rw [e, List.length_append]), finE_0]
  | false =>
    have h := of_decide_eq_true (show decide (hv = 0 ∧ b.length ≤ 65536) = true from hr)
    obtain ⟨rfl, hl⟩ := h
    have hbs : strB (strOfNums b) = b := strB_strOf hb
    have e : msgB ⟨false, 0, b⟩ = numB 0 ++ (numB (b.length : Nat) ++ b) := by unfold msgB; rw [if_neg (by simp), numB_0, List.append_assoc]
    have c1 : countF (msgB ⟨false, 0, b⟩) 0 0 1 = (0, (numB 0).length, 0) := count_back _ (numB (b.length : Nat) ++ b) 0 0 1 (by omega) (by omega) (by omega) (by rw [e, List.drop_zero])
    have hsz : (strOfNums b).size = b.length := strOf_size b
    have c2 : textF (msgB ⟨false, 0, b⟩) (numB 0).length 0 65536 = (b, (numB (b.length : Nat) ++ b).length, 0) := by
      have := text_back2 (msgB ⟨false, 0, b⟩) [] (numB 0).length (strOfNums b) 65536 (by rw [hsz]; omega) (by omega) (by rw [e, List.drop_left, hsz, hbs, List.append_nil]) (by rw [e, List.length_append]; omega)
      rw [hsz, hbs] at this
      exact this
    unfold readS
    rw [c1]
    dsimp only
    rw [if_neg (by omega), c2]
    dsimp only
    rw [doneF_end (by rw [e]; simp only [List.length_append]), finE_0]
/-- What is read has these very bytes. -/
theorem msg_very {l : List Int} {t : Tl} (hb : ∀ x ∈ l, 0 ≤ x ∧ x < 256) (h : readS l = (0, t)) : rightB t = true ∧ msgB t = l ∧ ∀ x ∈ t.b, 0 ≤ x ∧ x < 256 := by
  have ht := countF_taken l 0 0 1 (Nat.zero_le _)
  obtain ⟨c, hc⟩ : ∃ c, c = countF l 0 0 1 := ⟨_, rfl⟩
  unfold readS at h
  rw [← hc] at h ht
  obtain ⟨v, n, e⟩ := c
  rw [Nat.zero_add] at ht
  dsimp only at h ht
  by_cases hv : v = 1
  · rw [if_pos hv] at h
    obtain ⟨hd, rfl⟩ := finE_ok h
    obtain ⟨d, hdd⟩ : ∃ d, d = countF l n e 4503599627370497 := ⟨_, rfl⟩
    rw [← hdd] at hd ⊢
    obtain ⟨dv, dn, de⟩ := d
    dsimp only at hd ⊢
    obtain ⟨rfl, hend⟩ := doneF_ok hd
    obtain ⟨rfl, h1, h2, h3, h4⟩ := count_num hb hdd.symm
    obtain ⟨_, h5, _⟩ := count_num hb hc.symm
    rw [List.drop_zero, Nat.zero_add, h1, hend, List.drop_length, List.append_nil, hv] at h5
    refine ⟨decide_eq_true ⟨h3, h4, rfl⟩, ?_, by simp⟩
    unfold msgB
    rw [if_pos rfl, h5, numB_1]
  · rw [if_neg hv] at h
    obtain ⟨hd, rfl⟩ := finE_ok h
    obtain ⟨d, hdd⟩ : ∃ d, d = textF l n e 65536 := ⟨_, rfl⟩
    rw [← hdd] at hd ⊢
    obtain ⟨bs, dn, de⟩ := d
    dsimp only at hd ⊢
    obtain ⟨rfl, hend⟩ := doneF_ok hd
    obtain ⟨rfl, h1, h2, h3⟩ := text_num hb ht hdd.symm
    obtain ⟨_, h5, _, h6, h7⟩ := count_num hb hc.symm
    have hv0 : v = 0 := by omega
    rw [List.drop_zero, Nat.zero_add, h1, hend, List.drop_length, List.append_nil, hv0, numB_0] at h5
    refine ⟨decide_eq_true ⟨rfl, by show bs.length ≤ 65536; omega⟩, ?_, fun x hx => hb x (by rw [h5]; simp [hx])⟩
    unfold msgB
    rw [if_neg (by simp)]
    dsimp only
    rw [List.append_assoc, ← h5]
theorem strBytes_at (w : World) (e : TypeId) (s : ByteArray) (c : Nat) : SlAt (Lib.bytesWorld w e s) (.slice (some ⟨w.heap.size, 0, none⟩) s.size c) (u8s (strB s)) := by
  refine ⟨some ⟨w.heap.size, 0, none⟩, c, by simp [strB_length], (fun h => by cases h), fun a ha j u hj => ?_⟩
  cases ha
  have hlt : j < s.size := by
    have := (List.getElem?_eq_some_iff.1 hj).1
    simpa [strB_length] using this
  rw [addr_add, Lib.bytesWorld_cell w e s j hlt]
  unfold u8s strB at hj
  rw [List.map_map, List.getElem?_map] at hj
  obtain ⟨b, hb, rfl⟩ := Option.map_eq_some_iff.1 hj
  rw [List.getD_eq_getElem?_getD, hb]; rfl
/-- What Read leaves. -/
def ReadTo (w : World) (r : Int × Tl) (e : Ending) (w' : World) : Prop := ∃ x : Mg, e = .returned (.tuple #[.agg #[.bool x.ack, .int .i64 x.have_, .slice x.a x.b.length x.c], .int .i64 r.1]) ∧ x.t = r.2 ∧ x.At w' ∧ Kept (fun _ => False) w w'
theorem textF_byte {l : List Int} {t : Nat} {e most : Int} (hb : ∀ x ∈ l, 0 ≤ x ∧ x < 256) : ∀ x ∈ (textF l t e most).1, 0 ≤ x ∧ x < 256 := by
  intro x hx
  unfold textF at hx
  split at hx
  · simp at hx
  · unfold nextF at hx
    split at hx
    · simp at hx
    · split at hx
      · simp at hx
      · split at hx
        · simp at hx
        · exact hb x (List.mem_of_mem_drop (List.mem_of_mem_take hx))
set_option maxHeartbeats 8000000 in
set_option maxRecDepth 100000 in
theorem netRead_any (v : Value) (ao : Option Addr) (c : Nat) (l : List Int) (w : World) (hv : SliceAt w v ao l.length c (u8s l)) (hl : l.length ≤ 1000000000) (hb : ∀ x ∈ l, 0 ≤ x ∧ x < 256) :
    Calls Try.prog 28 #[v] w fun e w' => ReadTo w (readS l) e w' := by
  obtain ⟨wa, hwa⟩ : ∃ wa, wa = w.alloc (.cells #[.bool false, .int .i64 0, .slice none 0 0] 29) := ⟨_, rfl⟩
  obtain ⟨q2, hq2⟩ : ∃ q, q = w.heap.size := ⟨_, rfl⟩
  have ka : Kept (fun _ => False) w wa := by rw [hwa]; exact (Kept.refl _ _).alloc _
  have HBA : Hid (MB wa q2 false 0 (.slice none 0 0)) := Lib.hid (by rw [hwa, hq2]; exact heap_alloc_new w _)
  have HK := Lib.hid ka
  have HW := Lib.hid (And.intro hwa hq2)
  have HN := Lib.hid (rkNew_any v ao c l wa (hv.kept ka (fun _ _ x => x)) (by omega) hb)
  have HC := Lib.hid (fun (W w : World) (p : Nat) (h : RK W w p l 0 0) => rkCount_any 1 h (by omega) (by omega) (by omega))
  have HCM := Lib.hid (fun (W w : World) (p t : Nat) (e : Int) (h : RK W w p l t e) => rkCount_any 4503599627370497 h (by omega) (by omega) (by omega))
  have HTX := Lib.hid (fun (W w : World) (p t : Nat) (e : Int) (h : RK W w p l t e) => rkText_any 65536 h (by omega) (by omega) (by omega))
  have HDN := Lib.hid (fun (W w : World) (p t : Nat) (e : Int) (h : RK W w p l t e) => rkDone_any h (by omega))
  have HTB := Lib.hid (fun (t : Nat) (e : Int) => textF_byte (l := l) (t := t) (e := e) (most := 65536) hb)
  obtain ⟨R, hR⟩ : ∃ R, R = readS l := ⟨_, rfl⟩
  rw [← hR]
  unfold readS at hR
  obtain ⟨cc, hcc⟩ : ∃ cc, cc = countF l 0 0 1 := ⟨_, rfl⟩
  rw [← hcc] at hR HC
  obtain ⟨v1, n1, e1⟩ := cc
  dsimp only at hR
  simp only [Nat.zero_add] at HC
  have HR := Lib.hid hR
  clear hwa hq2 ka hv hl hb hR hcc
  go_enter Try.func28, Try.ntmps28
  go_upto_region 1 with fail
  rw [← HW.out.1, ← HW.out.2]
  go_wp2_with fail
  refine HN.out.mono ?_
  rintro e w1 ⟨p, rfl, hr1⟩
  have HR1 := Lib.hid hr1
  have HB1 : Hid (MB w1 q2 false 0 (.slice none 0 0)) := Lib.hid (hr1.old.same HBA.out (fun x => x))
  clear hr1
  go_wp2_with fail
  refine (HC.out wa w1 p HR1.out).mono ?_
  rintro e w2 ⟨rfl, hr2, k2⟩
  have HR2 := Lib.hid hr2
  have HB2 : Hid (MB w2 q2 false 0 (.slice none 0 0)) := Lib.hid (k2.same HB1.out (fun e => by obtain ⟨cs, h⟩ := HR1.out.box; exact box_ne HB1.out h (by decide) e))
  clear hr2 k2
  by_cases hv1 : v1 = 1
  · have q1 : (v1 == (1 : Int)) = true := beqT hv1
    have HRR : Hid (R = finE (doneF l (n1 + (countF l n1 e1 4503599627370497).2.1) (countF l n1 e1 4503599627370497).2.2) ⟨true, (countF l n1 e1 4503599627370497).1, []⟩) := Lib.hid (by rw [HR.out, if_pos hv1])
    have HC2 := Lib.hid (HCM.out wa)
    obtain ⟨d, hd⟩ : ∃ d, d = countF l n1 e1 4503599627370497 := ⟨_, rfl⟩
    have HC3 := Lib.hid (fun (w : World) (h : RK wa w p l n1 e1) => HC2.out w p n1 e1 h)
    rw [← hd] at HRR HC3
    obtain ⟨dv, dn, de⟩ := d
    obtain ⟨E, hE⟩ : ∃ E, E = doneF l (n1 + dn) de := ⟨_, rfl⟩
    have HD := Lib.hid (fun (w : World) (h : RK wa w p l (n1 + dn) de) => HDN.out wa w p (n1 + dn) de h)
    dsimp only at HRR HC3
    rw [← hE] at HRR HD
    obtain ⟨w3, hw3⟩ : ∃ w3, w3 = w2.alloc (.cells #[.bool true, .int .i64 0, .slice none 0 0] 29) := ⟨_, rfl⟩
    obtain ⟨q5, hq5⟩ : ∃ q, q = w2.heap.size := ⟨_, rfl⟩
    have k23 : Kept (fun _ => False) w2 w3 := by rw [hw3]; exact (Kept.refl _ _).alloc _
    have HB53 : Hid (MB w3 q5 true 0 (.slice none 0 0)) := Lib.hid (by rw [hw3, hq5]; exact heap_alloc_new w2 _)
    have HB23 : Hid (MB w3 q2 false 0 (.slice none 0 0)) := Lib.hid (k23.same HB2.out (fun x => x))
    have HR3 := Lib.hid (HR2.out.kept k23)
    have HQ := Lib.hid (show wa.heap.size ≤ q5 ∧ q2 ≠ q5 by have h1 := HR2.out.old.size; have h2 := HB2.out.lt; exact ⟨by omega, by omega⟩)
    have HW3 := Lib.hid (And.intro hw3 hq5)
    clear hv1 hd hE hw3 hq5 k23
    go_upto_region 3 with fail
    rw [← HW3.out.1, ← HW3.out.2]
    obtain ⟨b0, b1, b2⟩ := HB53.out.c
    go_wp2_with fail
    refine (HC3.out w3 HR3.out).mono ?_
    rintro e w4 ⟨rfl, hr4, k4⟩
    have hne : ∀ (j : Nat) (a : Bool) (h : Int) (v : Value), MB w3 j a h v → j ≠ p := fun j a h v hm => by
      obtain ⟨cs, hh⟩ := HR3.out.box; exact box_ne hm hh (by decide)
    have HR4 := Lib.hid hr4
    have HB54 : Hid (MB w4 q5 true 0 (.slice none 0 0)) := Lib.hid (k4.same HB53.out (hne _ _ _ _ HB53.out))
    have HB24 : Hid (MB w4 q2 false 0 (.slice none 0 0)) := Lib.hid (k4.same HB23.out (hne _ _ _ _ HB23.out))
    clear hr4 k4 b0 b1 b2 hne
    obtain ⟨b0, b1, b2⟩ := HB54.out.c
    have f1 := HB54.out.fz 1
    go_upto_region 6 with fail
    obtain ⟨w5, hw5⟩ : ∃ w5, w5 = w4.setCell ⟨q5, 1, none⟩ (.int .i64 dv) := ⟨_, rfl⟩
    rw [← hw5]
    have k45 : Kept (fun k => k = q5) w4 w5 := by rw [hw5]; exact (Kept.refl (fun k => k = q5) w4).setCell (p := ⟨q5, 1, none⟩) (fun _ => rfl) _
    have HB55 : Hid (MB w5 q5 true dv (.slice none 0 0)) := Lib.hid (by rw [hw5]; exact HB54.out.set1 dv)
    have HB25 : Hid (MB w5 q2 false 0 (.slice none 0 0)) := Lib.hid (k45.same HB24.out HQ.out.2)
    have HR5 := Lib.hid (HR4.out.blk k45 (fun j e => by subst e; exact ⟨HQ.out.1, _, _, _, HB54.out, by decide, by decide⟩))
    clear hw5 k45 b0 b1 b2 f1
    go_wp2_with fail
    refine (HD.out w5 HR5.out).mono ?_
    rintro e w6 ⟨rfl, k6⟩
    have HB56 : Hid (MB w6 q5 true dv (.slice none 0 0)) := Lib.hid (k6.same HB55.out (fun x => x))
    have HB26 : Hid (MB w6 q2 false 0 (.slice none 0 0)) := Lib.hid (k6.same HB25.out (fun x => x))
    have HK6 := Lib.hid (HK.out.trans (HR5.out.old.trans k6))
    clear k6
    obtain ⟨b0, b1, b2⟩ := HB56.out.c
    obtain ⟨c0, c1, c2⟩ := HB26.out.c
    have f0 := HB26.out.fz 0
    have f1 := HB26.out.fz 1
    have f2 := HB26.out.fz 2
    have HQ2 := Lib.hid (show w.heap.size ≤ q2 by have := HW.out.2; omega)
    by_cases hE : E = 0
    · have q3 : (E != (0 : Int)) = false := bneF hE
      have HX : Hid (R = (0, ⟨true, dv, []⟩)) := Lib.hid (by rw [HRR.out, hE, finE_0])
      clear hE
      go_wp2
      try simp only [Exit.inBlock, Exit.then]
      refine msg_end2 Try.results28 rfl rfl rfl (HB26.out.set3 true dv (.slice none 0 0)) ?_
      exact ⟨⟨true, dv, none, 0, []⟩, by rw [HX.out]; rfl, by rw [HX.out]; rfl, ⟨none, 0, rfl, fun _ => rfl, fun a ha => by cases ha⟩, HK6.out.newer (set3_keptM _ _ _ _ _) (fun j e => by rw [e]; exact HQ2.out)⟩
    · have q3 : (E != (0 : Int)) = true := bneT hE
      have HX : Hid (R = (E, tl0)) := Lib.hid (by rw [HRR.out, finE_e hE])
      clear hE
      go_wp2
      try simp only [Exit.inBlock, Exit.then]
      refine msg_end2 Try.results28 rfl rfl rfl (HB26.out.set3 false 0 (.slice none 0 0)) ?_
      exact ⟨⟨false, 0, none, 0, []⟩, by rw [HX.out]; rfl, by rw [HX.out]; rfl, ⟨none, 0, rfl, fun _ => rfl, fun a ha => by cases ha⟩, HK6.out.newer (set3_keptM _ _ _ _ _) (fun j e => by rw [e]; exact HQ2.out)⟩
  · have q1 : (v1 == (1 : Int)) = false := beqF hv1
    have HRR : Hid (R = finE (doneF l (n1 + (textF l n1 e1 65536).2.1) (textF l n1 e1 65536).2.2) ⟨false, 0, (textF l n1 e1 65536).1⟩) := Lib.hid (by rw [HR.out, if_neg hv1])
    have HC3 := Lib.hid (fun (w : World) (h : RK wa w p l n1 e1) => HTX.out wa w p n1 e1 h)
    have HTB2 := Lib.hid (HTB.out n1 e1)
    obtain ⟨d, hd⟩ : ∃ d, d = textF l n1 e1 65536 := ⟨_, rfl⟩
    rw [← hd] at HRR HC3 HTB2
    obtain ⟨dv, dn, de⟩ := d
    obtain ⟨E, hE⟩ : ∃ E, E = doneF l (n1 + dn) de := ⟨_, rfl⟩
    have HD := Lib.hid (fun (w : World) (h : RK wa w p l (n1 + dn) de) => HDN.out wa w p (n1 + dn) de h)
    dsimp only at HRR HC3 HTB2
    rw [← hE] at HRR HD
    obtain ⟨w3, hw3⟩ : ∃ w3, w3 = w2.alloc (.cells #[.bool false, .int .i64 0, .slice none 0 0] 29) := ⟨_, rfl⟩
    obtain ⟨q5, hq5⟩ : ∃ q, q = w2.heap.size := ⟨_, rfl⟩
    have k23 : Kept (fun _ => False) w2 w3 := by rw [hw3]; exact (Kept.refl _ _).alloc _
    have HB53 : Hid (MB w3 q5 false 0 (.slice none 0 0)) := Lib.hid (by rw [hw3, hq5]; exact heap_alloc_new w2 _)
    have HB23 : Hid (MB w3 q2 false 0 (.slice none 0 0)) := Lib.hid (k23.same HB2.out (fun x => x))
    have HR3 := Lib.hid (HR2.out.kept k23)
    have HQ := Lib.hid (show wa.heap.size ≤ q5 ∧ q2 ≠ q5 by have h1 := HR2.out.old.size; have h2 := HB2.out.lt; exact ⟨by omega, by omega⟩)
    have HW3 := Lib.hid (And.intro hw3 hq5)
    clear hv1 hd hE hw3 hq5 k23
    go_upto_region 3 with fail
    rw [← HW3.out.1, ← HW3.out.2]
    obtain ⟨b0, b1, b2⟩ := HB53.out.c
    go_wp2_with fail
    refine (HC3.out w3 HR3.out).mono ?_
    rintro e w4 ⟨rfl, hr4, k4⟩
    have hne : ∀ (j : Nat) (a : Bool) (h : Int) (v : Value), MB w3 j a h v → j ≠ p := fun j a h v hm => by
      obtain ⟨cs, hh⟩ := HR3.out.box; exact box_ne hm hh (by decide)
    have HR4 := Lib.hid hr4
    have HB54 : Hid (MB w4 q5 false 0 (.slice none 0 0)) := Lib.hid (k4.same HB53.out (hne _ _ _ _ HB53.out))
    have HB24 : Hid (MB w4 q2 false 0 (.slice none 0 0)) := Lib.hid (k4.same HB23.out (hne _ _ _ _ HB23.out))
    clear hr4 k4 b0 b1 b2 hne
    have hcv := strBytes_run w4 9 27 (strOfNums dv) Try.underlying9 Try.underlying27 Try.underlying5
    have hat := strBytes_at w4 5 (strOfNums dv) (grownCap w4 (strOfNums dv).size 0 5)
    rw [strB_strOf HTB2.out] at hat
    obtain ⟨w4b, hw4b⟩ : ∃ w, w = Lib.bytesWorld w4 5 (strOfNums dv) := ⟨_, rfl⟩
    have k4b : Kept (fun _ => False) w4 w4b := by rw [hw4b]; exact strBytes_kept _ _ _
    obtain ⟨ac, hac⟩ : ∃ a : Addr, a = ⟨w4.heap.size, 0, none⟩ := ⟨_, rfl⟩
    obtain ⟨cc, hcc⟩ : ∃ c, c = grownCap w4 (strOfNums dv).size 0 5 := ⟨_, rfl⟩
    rw [← hw4b, ← hac, ← hcc, strOf_size] at hcv hat
    obtain ⟨nd, hnd⟩ : ∃ n, n = dv.length := ⟨_, rfl⟩
    rw [← hnd] at hcv hat
    have HND := Lib.hid hnd
    obtain ⟨sx, hsx⟩ : ∃ s, s = strOfNums dv := ⟨_, rfl⟩
    rw [← hsx] at hcv ⊢
    have HB54b : Hid (MB w4b q5 false 0 (.slice none 0 0)) := Lib.hid (k4b.same HB54.out (fun x => x))
    have HB24b : Hid (MB w4b q2 false 0 (.slice none 0 0)) := Lib.hid (k4b.same HB24.out (fun x => x))
    have HR4b := Lib.hid (HR4.out.kept k4b)
    have HAT := Lib.hid (show SlAt w4b (.slice (some ac) nd cc) (u8s dv) ∧ w4.heap.size = ac.block from ⟨hat, by rw [hac]⟩)
    have HB5L := Lib.hid (HB54.out.lt)
    have HB2L := Lib.hid (HB24.out.lt)
    clear hat hw4b k4b hac hcc hnd hsx
    obtain ⟨b0, b1, b2⟩ := HB54b.out.c
    have f2 := HB54b.out.fz 2
    go_upto_region 6 with fail
    obtain ⟨w5, hw5⟩ : ∃ w5, w5 = w4b.setCell ⟨q5, 2, none⟩ (.slice (some ac) nd cc) := ⟨_, rfl⟩
    rw [← hw5]
    have k45 : Kept (fun k => k = q5) w4b w5 := by rw [hw5]; exact (Kept.refl (fun k => k = q5) w4b).setCell (p := ⟨q5, 2, none⟩) (fun _ => rfl) _
    have HB55 : Hid (MB w5 q5 false 0 (.slice (some ac) nd cc)) := Lib.hid (by rw [hw5]; exact HB54b.out.set2 _)
    have HB25 : Hid (MB w5 q2 false 0 (.slice none 0 0)) := Lib.hid (k45.same HB24b.out HQ.out.2)
    have HR5 := Lib.hid (HR4b.out.blk k45 (fun j e => by subst e; exact ⟨HQ.out.1, _, _, _, HB54b.out, by decide, by decide⟩))
    have HAT5 := Lib.hid (HAT.out.1.kept k45 (fun j e e2 => by
      have h1 : ac.block = j := by injection e
      have := HAT.out.2
      have := HB5L.out
      omega))
    clear hw5 k45 b0 b1 b2 f2 hcv
    go_wp2_with fail
    refine (HD.out w5 HR5.out).mono ?_
    rintro e w6 ⟨rfl, k6⟩
    have HB56 : Hid (MB w6 q5 false 0 (.slice (some ac) nd cc)) := Lib.hid (k6.same HB55.out (fun x => x))
    have HB26 : Hid (MB w6 q2 false 0 (.slice none 0 0)) := Lib.hid (k6.same HB25.out (fun x => x))
    have HK6 := Lib.hid (HK.out.trans (HR5.out.old.trans k6))
    have HAT6 := Lib.hid (HAT5.out.kept k6 (fun _ _ x => x))
    clear k6
    obtain ⟨b0, b1, b2⟩ := HB56.out.c
    obtain ⟨c0, c1, c2⟩ := HB26.out.c
    have f0 := HB26.out.fz 0
    have f1 := HB26.out.fz 1
    have f2 := HB26.out.fz 2
    have HQ2 := Lib.hid (show w.heap.size ≤ q2 by have := HW.out.2; omega)
    by_cases hE : E = 0
    · have q3 : (E != (0 : Int)) = false := bneF hE
      have HX : Hid (R = (0, ⟨false, 0, dv⟩)) := Lib.hid (by rw [HRR.out, hE, finE_0])
      clear hE
      go_wp2
      try simp only [Exit.inBlock, Exit.then]
      refine msg_end2 Try.results28 rfl rfl rfl (HB26.out.set3 false 0 (.slice (some ac) nd cc)) ?_
      refine ⟨⟨false, 0, some ac, cc, dv⟩, by rw [HX.out]; dsimp only; rw [← HND.out]; rfl, by rw [HX.out]; rfl, ?_, HK6.out.newer (set3_keptM _ _ _ _ _) (fun j e => by rw [e]; exact HQ2.out)⟩
      unfold Mg.At
      dsimp only
      rw [← HND.out]
      refine HAT6.out.kept (set3_keptM _ _ _ _ _) (fun j e e2 => ?_)
      have h1 : ac.block = j := by injection e
      have := HAT.out.2
      have := HB2L.out
      omega
    · have q3 : (E != (0 : Int)) = true := bneT hE
      have HX : Hid (R = (E, tl0)) := Lib.hid (by rw [HRR.out, finE_e hE])
      clear hE
      go_wp2
      try simp only [Exit.inBlock, Exit.then]
      refine msg_end2 Try.results28 rfl rfl rfl (HB26.out.set3 false 0 (.slice none 0 0)) ?_
      exact ⟨⟨false, 0, none, 0, []⟩, by rw [HX.out]; rfl, by rw [HX.out]; rfl, ⟨none, 0, rfl, fun _ => rfl, fun a ha => by cases ha⟩, HK6.out.newer (set3_keptM _ _ _ _ _) (fun j e => by rw [e]; exact HQ2.out)⟩
end Go.Proofs.Ytkidbbmdlmnokaa
