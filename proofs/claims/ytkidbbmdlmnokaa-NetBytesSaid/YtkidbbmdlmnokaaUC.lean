/- Layer 23: the document's Read. -/
import Derived.Test.YtkidbbmdlmnokaaUB
namespace Go.Proofs.Ytkidbbmdlmnokaa
open Go.RowKit
attribute [local go_sem ↓] Go.wp_at_zero Go.wp_at_succ

set_option maxHeartbeats 16000000 in
set_option maxRecDepth 100000 in
theorem refRead23_any (ab : Option Addr) (cb : Nat) (l : List Int) (w : World) (hv : SliceAt w (.slice ab l.length cb) ab l.length cb (u8s l)) (hl : l.length ≤ 1000000000) (hcb : l.length ≤ cb) (hb : ∀ x ∈ l, 0 ≤ x ∧ x < 256) :
    Calls Try.prog 29 #[.slice ab l.length cb] w fun e w' => ReadTo w (readS l) e w' := by
  have HG : Hid (∀ (t : Nat) (w' : World), Kept (fun _ => False) w w' → t ≤ l.length → ∀ (v : Int) (n : Nat) (e : Int), lookF l t = (v, n, e) →
      Calls Try.prog 60 #[.slice ab l.length cb, .int .i64 (t : Int)] w' fun e' w'' => e' = .returned (.agg #[.int .u64 v, .int .i64 (n : Int), .int .i64 e]) ∧ Kept (fun _ => False) w' w'') := Lib.hid (fun t w' k ht v n e h => by
    have := getNum_any (.slice ab l.length cb) ab cb l t w' (hv.kept k (fun _ _ x => x)) hb (by omega) ht
    rw [h] at this
    exact this)
  have HU : Hid (∀ w', Kept (fun _ => False) w w' → SlAt w' (.slice ab l.length cb) (u8s l)) := Lib.hid (fun w' k => hv.slAt.kept k (fun _ _ x => x))
  have HNUM := Lib.hid (fun (t : Nat) (v : Int) (n : Nat) (h : lookF l t = (v, n, 0)) => look_num l t n v hb h)
  have HONE := Lib.hid (fun (v : Int) (n : Nat) (h : lookF l 0 = (v, n, 0)) (hv : v ≤ 1) => look_one_n hb h hv)
  obtain ⟨i0, hi, hz0, hz1, hz2⟩ := info_parts Try.info5
  have HCUT := Lib.hid (fun (lo : Nat) (h1 : lo ≤ l.length) (w : World) => run_cutL (P := Try.prog) Try.underlying27 hi hz1 ab l.length cb lo h1 w)
  have HCUTA := Lib.hid (fun (lo : Nat) (h1 : lo ≤ l.length) (w : World) => run_cutLAt (P := Try.prog) Try.underlying27 hi hz1 ab l.length cb lo h1 w)
  have HL := Lib.hid (And.intro hl hcb)
  obtain ⟨v1, n1, e1, hr1⟩ : ∃ v n e, lookF l 0 = (v, n, e) := ⟨_, _, _, rfl⟩
  obtain ⟨wa, hwa⟩ : ∃ wa, wa = w.alloc (.cells #[.bool false, .int .i64 0, .slice none 0 0] 29) := ⟨_, rfl⟩
  obtain ⟨q2, hq2⟩ : ∃ q, q = w.heap.size := ⟨_, rfl⟩
  have ka : Kept (fun _ => False) w wa := by rw [hwa]; exact (Kept.refl _ _).alloc _
  have HBA : Hid (MB wa q2 false 0 (.slice none 0 0)) := Lib.hid (by rw [hwa, hq2]; exact heap_alloc_new w _)
  have HKA := Lib.hid ka
  have HW := Lib.hid (And.intro hwa hq2)
  have HQ2 := Lib.hid (show w.heap.size ≤ q2 by omega)
  have HC1 := Lib.hid (HG.out 0 wa ka (Nat.zero_le _) v1 n1 e1 hr1)
  have HR1 := Lib.hid hr1
  clear hv hl hcb hb hi hz0 hz1 hz2 hwa hq2 ka hr1
  go_enter Try.func29, Try.ntmps29
  go_upto_region 1 with fail
  rw [← HW.out.1, ← HW.out.2]
  go_wp2_with fail
  refine HC1.out.mono ?_
  rintro e w1 ⟨rfl, k1⟩
  obtain ⟨w2, hw2⟩ : ∃ w2, w2 = w1.alloc (.cells #[.int .u64 v1, .int .i64 (n1 : Int), .int .i64 e1] 90) := ⟨_, rfl⟩
  obtain ⟨q4, hq4⟩ : ∃ q, q = w1.heap.size := ⟨_, rfl⟩
  have k2 : Kept (fun _ => False) w1 w2 := by rw [hw2]; exact (Kept.refl _ _).alloc _
  have HG2 : Hid (GG w2 q4 (v1, n1, e1)) := Lib.hid (by rw [hw2, hq4]; exact heap_alloc_new w1 _)
  have HB2 : Hid (MB w2 q2 false 0 (.slice none 0 0)) := Lib.hid ((k1.trans k2).same HBA.out (fun x => x))
  have HK2 := Lib.hid (HKA.out.trans (k1.trans k2))
  have HW2 := Lib.hid (And.intro hw2 hq4)
  clear k1 k2 hw2 hq4
  go_upto_region 2 with fail
  rw [← HW2.out.1, ← HW2.out.2]
  obtain ⟨c0, c1, c2⟩ := HG2.out.c
  dsimp only at c0 c1 c2
  obtain ⟨b0, b1, b2⟩ := HB2.out.c
  have f0 := HB2.out.fz 0
  have f1 := HB2.out.fz 1
  have f2 := HB2.out.fz 2
  by_cases he1 : e1 = 0
  · have q1 : (e1 != (0 : Int)) = false := bneF he1
    have HR10 : Hid (lookF l 0 = (v1, n1, 0)) := Lib.hid (by rw [HR1.out, he1])
    clear he1
    by_cases hv1 : 1 < v1
    · have q2' : decide ((1 : Int) < v1) = true := decide_eq_true hv1
      have HE : Hid (readS l = (4, tl0)) := Lib.hid (rs_v HR10.out hv1)
      go_wp2
      try simp only [Exit.inBlock, Exit.then]
      refine msg_end2 Try.results29 rfl rfl rfl (HB2.out.set3 false 0 (.slice none 0 0)) ?_
      exact ⟨⟨false, 0, none, 0, []⟩, by rw [HE.out]; rfl, by rw [HE.out]; rfl, ⟨none, 0, rfl, fun _ => rfl, fun a ha => by cases ha⟩, HK2.out.newer (set3_keptM _ _ _ _ _) (fun j e => by rw [e]; exact HQ2.out)⟩
    · have q2' : decide ((1 : Int) < v1) = false := decide_eq_false hv1
      have hone := HONE.out v1 n1 HR10.out (by omega)
      obtain ⟨hn1, hl1, hv0⟩ := hone
      obtain ⟨v2, n2, e2, hr2⟩ : ∃ v n e, lookF l 1 = (v, n, e) := ⟨_, _, _, rfl⟩
      have HC2 := Lib.hid (HG.out 1 w2 HK2.out hl1 v2 n2 e2 hr2)
      have HR2 := Lib.hid hr2
      have HT2 : Hid (1 + n2 ≤ l.length) := Lib.hid (by have := lookF_taken l 1 hl1; rw [hr2] at this; exact this)
      have HV01 : Hid (lookF l 0 = (v1, 1, 0) ∧ (v1 = 0 ∨ v1 = 1)) := Lib.hid ⟨by rw [HR10.out, hn1], by omega⟩
      clear hn1 hl1 hv0 hr2 hv1
      go_wp2_with fail
      refine HC2.out.mono ?_
      rintro e w3 ⟨rfl, k3⟩
      obtain ⟨w4, hw4⟩ : ∃ w4, w4 = w3.alloc (.cells #[.int .u64 v2, .int .i64 (n2 : Int), .int .i64 e2] 90) := ⟨_, rfl⟩
      obtain ⟨q5, hq5⟩ : ∃ q, q = w3.heap.size := ⟨_, rfl⟩
      have k4 : Kept (fun _ => False) w3 w4 := by rw [hw4]; exact (Kept.refl _ _).alloc _
      have HG5 : Hid (GG w4 q5 (v2, n2, e2)) := Lib.hid (by rw [hw4, hq5]; exact heap_alloc_new w3 _)
      have HG4 : Hid (GG w4 q4 (v1, n1, e1)) := Lib.hid ((k3.trans k4).same HG2.out (fun x => x))
      have HB4 : Hid (MB w4 q2 false 0 (.slice none 0 0)) := Lib.hid ((k3.trans k4).same HB2.out (fun x => x))
      have HK4 := Lib.hid (HK2.out.trans (k3.trans k4))
      have HW4 := Lib.hid (And.intro hw4 hq5)
      clear k3 k4 hw4 hq5 c0 c1 c2 b0 b1 b2 f0 f1 f2 q1 q2'
      go_upto_region 7 with fail
      rw [← HW4.out.1, ← HW4.out.2]
      obtain ⟨c0, c1, c2⟩ := HG4.out.c
      dsimp only at c0 c1 c2
      obtain ⟨d0, d1, d2⟩ := HG5.out.c
      dsimp only at d0 d1 d2
      obtain ⟨b0, b1, b2⟩ := HB4.out.c
      have f0 := HB4.out.fz 0
      have f1 := HB4.out.fz 1
      have f2 := HB4.out.fz 2
      by_cases he2 : e2 = 0
      · have q1 : (e2 != (0 : Int)) = false := bneF he2
        have HR20 : Hid (lookF l 1 = (v2, n2, 0)) := Lib.hid (by rw [HR2.out, he2])
        have hv20 := (HNUM.out 1 v2 n2 HR20.out).2.1
        obtain ⟨t, ht⟩ : ∃ t, t = 1 + n2 := ⟨_, rfl⟩
        have wt : IntKind.i64.wrap (1 + (n2 : Int)) = (t : Int) := by rw [IntWalk.i64_in _ ⟨by omega, by have := HT2.out; have := HL.out.1; omega⟩]; omega
        have HTT := Lib.hid ht
        clear he2 ht
        rcases HV01.out.2 with hv | hv
        · have HA : Hid (lookF l 0 = (0, 1, 0)) := Lib.hid (by rw [HV01.out.1, hv])
          have q3 : (v1 == (1 : Int)) = false := beqF (by omega)
          clear hv
          by_cases hbig : 65536 < v2
          · have q4' : decide ((65536 : Int) < v2) = true := decide_eq_true hbig
            have HE : Hid (readS l = (4, tl0)) := Lib.hid (rs0_v HA.out HR20.out hbig)
            clear hbig hv20
            go_wp2
            try simp only [Exit.inBlock, Exit.then]
            refine msg_end2 Try.results29 rfl rfl rfl (HB4.out.set3 false 0 (.slice none 0 0)) ?_
            exact ⟨⟨false, 0, none, 0, []⟩, by rw [HE.out]; rfl, by rw [HE.out]; rfl, ⟨none, 0, rfl, fun _ => rfl, fun a ha => by cases ha⟩, HK4.out.newer (set3_keptM _ _ _ _ _) (fun j e => by rw [e]; exact HQ2.out)⟩
          · have q4' : decide ((65536 : Int) < v2) = false := decide_eq_false hbig
            obtain ⟨m, hm⟩ : ∃ m : Nat, v2 = (m : Int) := ⟨v2.toNat, by omega⟩
            have wm : IntKind.i64.wrap v2 = (m : Int) := by rw [IntWalk.i64_in _ ⟨by omega, by omega⟩, hm]
            have HRM : Hid (lookF l 1 = ((m : Int), n2, 0) ∧ m ≤ 65536) := Lib.hid ⟨by rw [HR20.out, hm], by omega⟩
            obtain ⟨z, hz⟩ : ∃ z, z = l.length - t := ⟨_, rfl⟩
            have wz : IntKind.i64.wrap ((l.length : Int) - (t : Int)) = (z : Int) := by rw [IntWalk.i64_in _ ⟨by have := HL.out; have := HT2.out; have := HTT.out; omega, by have := HL.out; omega⟩]; have := HT2.out; have := HTT.out; omega
            have HZ := Lib.hid hz
            clear hbig hv20 hm hz
            by_cases hs : z < m
            · have q5 : (z : Int) < (m : Int) := by omega
              have q5' : decide (z < m) = true := decide_eq_true hs
              have HE : Hid (readS l = (2, tl0)) := Lib.hid (rs0_s HA.out HRM.out.1 HRM.out.2 (by have := HZ.out; have := HTT.out; have := HT2.out; omega))
              clear hs
              go_wp2
              try simp only [Exit.inBlock, Exit.then]
              refine msg_end2 Try.results29 rfl rfl rfl (HB4.out.set3 false 0 (.slice none 0 0)) ?_
              exact ⟨⟨false, 0, none, 0, []⟩, by rw [HE.out]; rfl, by rw [HE.out]; rfl, ⟨none, 0, rfl, fun _ => rfl, fun a ha => by cases ha⟩, HK4.out.newer (set3_keptM _ _ _ _ _) (fun j e => by rw [e]; exact HQ2.out)⟩
            · have q5 : ¬ (z : Int) < (m : Int) := by omega
              have q5' : decide (z < m) = false := decide_eq_false hs
              by_cases hs2 : m < z
              · have q6 : (m : Int) < (z : Int) := by omega
                have q6' : decide (m < z) = true := decide_eq_true hs2
                have HE : Hid (readS l = (3, tl0)) := Lib.hid (rs0_f HA.out HRM.out.1 HRM.out.2 (by have := HZ.out; have := HTT.out; omega))
                clear hs hs2
                go_wp2
                try simp only [Exit.inBlock, Exit.then]
                refine msg_end2 Try.results29 rfl rfl rfl (HB4.out.set3 false 0 (.slice none 0 0)) ?_
                exact ⟨⟨false, 0, none, 0, []⟩, by rw [HE.out]; rfl, by rw [HE.out]; rfl, ⟨none, 0, rfl, fun _ => rfl, fun a ha => by cases ha⟩, HK4.out.newer (set3_keptM _ _ _ _ _) (fun j e => by rw [e]; exact HQ2.out)⟩
              · have q6 : ¬ (m : Int) < (z : Int) := by omega
                have q6' : decide (m < z) = false := decide_eq_false hs2
                have HE : Hid (readS l = (0, ⟨false, 0, l.drop t⟩)) := Lib.hid (by
                  have h := rs0_ok HA.out HRM.out.1 HRM.out.2 (by have := HZ.out; have := HTT.out; have := HT2.out; omega)
                  rw [← HTT.out] at h; exact h)
                have htl : t ≤ l.length := by have := HTT.out; have := HT2.out; omega
                have hcut := HCUT.out t htl
                have hcutA := HCUTA.out t htl
                have hsl := (HU.out w4 HK4.out).cutL (lo := t) htl HL.out.2
                obtain ⟨ax, hax⟩ : ∃ ax, ax = (if cb = t then ab else ab.map (·.add t)) := ⟨_, rfl⟩
                obtain ⟨cx, hcx⟩ : ∃ cx, cx = cb - t := ⟨_, rfl⟩
                obtain ⟨nx, hnx⟩ : ∃ nx, nx = l.length - t := ⟨_, rfl⟩
                rw [← hax, ← hcx, ← hnx] at hcut hcutA hsl
                have HSL : Hid (SlAt w4 (.slice ax nx cx) (u8s (l.drop t))) := Lib.hid (by unfold u8s at hsl ⊢; rw [List.map_drop]; exact hsl)
                have HNX : Hid ((l.drop t).length = nx) := Lib.hid (by rw [List.length_drop, hnx])
                have HFR := Lib.hid (fun j (e : (Value.slice ax nx cx).ownBlock = some j) (h0 : 0 < nx) => (show j < w.heap.size from by
                  have := HU.out w (Kept.refl _ _)
                  have h2 := (this.cutL (lo := t) htl HL.out.2)
                  rw [← hax, ← hcx, ← hnx] at h2
                  obtain ⟨g, off, c', e3, hc⟩ := h2.addr (by rw [List.length_drop]; simp; omega)
                  rw [e3] at e
                  injection e with e
                  have hlt := World.block_lt_of_cell? w _ (hc 0 _ (List.getElem?_eq_getElem (by rw [List.length_drop]; simp; omega)))
                  simpa [← e] using hlt))
                have hcin : (t : Int) ≤ (l.length : Int) := by omega
                clear hs hs2 hsl hax hcx hnx htl
                go_wp2
                try simp only [Exit.inBlock, Exit.then]
                refine msg_end2 Try.results29 rfl rfl rfl (HB4.out.set3 false 0 (.slice ax nx cx)) ?_
                refine ⟨⟨false, 0, ax, cx, l.drop t⟩, by rw [HE.out]; dsimp only; rw [HNX.out]; rfl, by rw [HE.out]; rfl, ?_, HK4.out.newer (set3_keptM _ _ _ _ _) (fun j e => by rw [e]; exact HQ2.out)⟩
                unfold Mg.At
                dsimp only
                rw [HNX.out]
                rcases Nat.eq_zero_or_pos nx with h0 | h0
                · obtain rfl := h0
                  have h1 : l.drop t = [] := List.eq_nil_of_length_eq_zero HNX.out
                  rw [h1]
                  exact ⟨ax, cx, rfl, fun _ => rfl, fun a ha j u hu => by cases hu⟩
                · exact HSL.out.kept (set3_keptM _ _ _ _ _) (fun j e e2 => by have := HFR.out j e h0; have := HQ2.out; omega)
        · have HA : Hid (lookF l 0 = (1, 1, 0)) := Lib.hid (by rw [HV01.out.1, hv])
          have q3 : (v1 == (1 : Int)) = true := beqT (by omega)
          clear hv
          by_cases hbig : 4503599627370497 < v2
          · have q4' : decide ((4503599627370497 : Int) < v2) = true := decide_eq_true hbig
            have HE : Hid (readS l = (4, tl0)) := Lib.hid (rs1_v HA.out HR20.out hbig)
            clear hbig hv20
            go_wp2
            try simp only [Exit.inBlock, Exit.then]
            refine msg_end2 Try.results29 rfl rfl rfl (HB4.out.set3 false 0 (.slice none 0 0)) ?_
            exact ⟨⟨false, 0, none, 0, []⟩, by rw [HE.out]; rfl, by rw [HE.out]; rfl, ⟨none, 0, rfl, fun _ => rfl, fun a ha => by cases ha⟩, HK4.out.newer (set3_keptM _ _ _ _ _) (fun j e => by rw [e]; exact HQ2.out)⟩
          · have q4' : decide ((4503599627370497 : Int) < v2) = false := decide_eq_false hbig
            have wm : IntKind.i64.wrap v2 = v2 := IntWalk.i64_in _ ⟨by omega, by omega⟩
            have HV2 := Lib.hid (show 0 ≤ v2 ∧ v2 ≤ 4503599627370497 by omega)
            clear hbig hv20
            by_cases hs : t < l.length
            · have q5 : (t : Int) < (l.length : Int) := by omega
              have q5' : decide (t < l.length) = true := decide_eq_true hs
              have HE : Hid (readS l = (3, tl0)) := Lib.hid (rs1_f HA.out HR20.out HV2.out.1 HV2.out.2 (by have := HTT.out; omega))
              clear hs
              go_wp2
              try simp only [Exit.inBlock, Exit.then]
              refine msg_end2 Try.results29 rfl rfl rfl (HB4.out.set3 false 0 (.slice none 0 0)) ?_
              exact ⟨⟨false, 0, none, 0, []⟩, by rw [HE.out]; rfl, by rw [HE.out]; rfl, ⟨none, 0, rfl, fun _ => rfl, fun a ha => by cases ha⟩, HK4.out.newer (set3_keptM _ _ _ _ _) (fun j e => by rw [e]; exact HQ2.out)⟩
            · have q5 : ¬ (t : Int) < (l.length : Int) := by omega
              have q5' : decide (t < l.length) = false := decide_eq_false hs
              have HE : Hid (readS l = (0, ⟨true, v2, []⟩)) := Lib.hid (rs1_ok HA.out HR20.out HV2.out.1 HV2.out.2 (by have := HTT.out; have := HT2.out; omega))
              clear hs
              go_wp2
              try simp only [Exit.inBlock, Exit.then]
              refine msg_end2 Try.results29 rfl rfl rfl (HB4.out.set3 true v2 (.slice none 0 0)) ?_
              exact ⟨⟨true, v2, none, 0, []⟩, by rw [HE.out]; rfl, by rw [HE.out]; rfl, ⟨none, 0, rfl, fun _ => rfl, fun a ha => by cases ha⟩, HK4.out.newer (set3_keptM _ _ _ _ _) (fun j e => by rw [e]; exact HQ2.out)⟩
      · have q1 : (e2 != (0 : Int)) = true := bneT he2
        have HE : Hid (readS l = (e2, tl0)) := Lib.hid (by
          rcases HV01.out.2 with hv | hv
          · exact rs0_e (by rw [HV01.out.1, hv]) HR2.out he2
          · exact rs1_e (by rw [HV01.out.1, hv]) HR2.out he2)
        clear he2
        go_upto_region 8 with fail
        have hne1 : ¬ q2 = q5 := box_ne HB4.out HG5.out (by decide)
        have hne2 : ¬ q5 = q2 := fun e => hne1 e.symm
        go_region
        go_wp2
        try simp only [Exit.inBlock, Exit.then]
        have kd := (Kept.refl (fun _ => False) ((((w4.setCell ⟨q2, 0, none⟩ (.bool false)).setCell ⟨q2, 1, none⟩ (.int .i64 0)).setCell ⟨q2, 2, none⟩ (.slice none 0 0)))).drew
        refine msg_end2 Try.results29 rfl rfl rfl (kd.same (HB4.out.set3 false 0 (.slice none 0 0)) (fun x => x)) ?_
        exact ⟨⟨false, 0, none, 0, []⟩, by rw [HE.out]; rfl, by rw [HE.out]; rfl, ⟨none, 0, rfl, fun _ => rfl, fun a ha => by cases ha⟩, (HK4.out.newer (set3_keptM _ _ _ _ _) (fun j e => by rw [e]; exact HQ2.out)).trans kd⟩
  · have q1 : (e1 != (0 : Int)) = true := bneT he1
    have HE : Hid (readS l = (e1, tl0)) := Lib.hid (rs_e HR1.out he1)
    clear he1
    go_upto_region 3 with fail
    have hne1 : ¬ q2 = q4 := box_ne HB2.out HG2.out (by decide)
    have hne2 : ¬ q4 = q2 := fun e => hne1 e.symm
    go_region
    go_wp2
    try simp only [Exit.inBlock, Exit.then]
    have kd := (Kept.refl (fun _ => False) ((((w2.setCell ⟨q2, 0, none⟩ (.bool false)).setCell ⟨q2, 1, none⟩ (.int .i64 0)).setCell ⟨q2, 2, none⟩ (.slice none 0 0)))).drew
    refine msg_end2 Try.results29 rfl rfl rfl (kd.same (HB2.out.set3 false 0 (.slice none 0 0)) (fun x => x)) ?_
    exact ⟨⟨false, 0, none, 0, []⟩, by rw [HE.out]; rfl, by rw [HE.out]; rfl, ⟨none, 0, rfl, fun _ => rfl, fun a ha => by cases ha⟩, (HK2.out.newer (set3_keptM _ _ _ _ _) (fun j e => by rw [e]; exact HQ2.out)).trans kd⟩
end Go.Proofs.Ytkidbbmdlmnokaa
