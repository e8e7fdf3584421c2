/- Texts put together: Z32, Z33, Z34, Z35, Z36, Z37, Z38. -/
import Derived.Test.YtjpnfadmblmjbaaDoorZz16
import Derived.Test.YtjpnfadmblmjbaaDoorZz10
import Derived.Test.YtjpnfadmblmjbaaDoorZz13
import Derived.Test.YtjpnfadmblmjbaaDoorZz9
import Derived.Test.YtjpnfadmblmjbaaDoorZz14
/- package limnographref10: a side's shape that is read. -/
namespace Go.Proofs.YtjpnfadmblmjbaaDoor
open Go.RowKit
attribute [local go_sem ↓] Go.wp_at_zero Go.wp_at_succ

/-- A side's shape: offset, size, the place behind it, the error. -/
def sideR (l : List Bool) (t E : Nat) : Int × Nat × Nat × Nat :=
  let r := bitsR l t E 8
  let E2 := if r.2.2 = 0 ∧ 160 < r.1 then 4 else r.2.2
  if E2 ≠ 0 ∨ r.1 = 0 then (0, 0, r.2.1, E2)
  else
    let s := smallR l r.2.1 0
    (zagI s.1, r.1, s.2.1, s.2.2)
theorem bitsR_lt (l : List Bool) (t E : Nat) : (bitsR l t E 8).1 < 256 ∧ (t ≤ l.length → (bitsR l t E 8).2.1 ≤ l.length) := by
  unfold bitsR
  split
  · exact ⟨(by decide : 0 < 256), fun h => h⟩
  · split
    · exact ⟨(by decide : 0 < 256), fun h => h⟩
    · refine ⟨?_, fun h => by simp only; omega⟩
      have := numB_lt ((l.drop t).take 8)
      rw [List.length_take, List.length_drop, Nat.min_eq_left (by omega)] at this
      exact this
/-- What side answers and leaves. -/
def SideTo (w : World) (b : Nat) (v : Value) (R : Int × Nat × Nat × Nat) (e : Ending) (w' : World) : Prop :=
  ∃ u, e = .returned (.agg #[.int .i64 R.1, u]) ∧ OwnU w w' u (List.replicate R.2.1 0) ∧ StB w' b v R.2.2.1 R.2.2.2 ∧ Kept (fun k => k = b) w w'

set_option maxHeartbeats 8000000 in
set_option maxRecDepth 100000 in
theorem stSide_any (b : Nat) (ao : Option Addr) (c : Nat) (l : List Bool) (t E : Nat) (w : World) (h : StB w b (.slice ao l.length c) t E) (hv : SlAt w (.slice ao l.length c) (ints l)) (hvb : (Value.slice ao l.length c).ownBlock ≠ some b) (hc : l.length ≤ c) (ht : t ≤ l.length) (hl : l.length ≤ 100000000) :
    Calls Tryd.prog 78 #[.pointer (some ⟨b, 0, none⟩)] w (SideTo w b (.slice ao l.length c) (sideR l t E)) := by
  have hb0 := (Array.getElem?_eq_some_iff.1 h).1
  obtain ⟨w0, hw0⟩ : ∃ w0, w0 = w.alloc (.cells #[.int .i64 0, .slice none 0 0] 60) := ⟨_, rfl⟩
  have k0 : Kept (fun _ => False) w w0 := by rw [hw0]; exact (Kept.refl _ _).alloc _
  have HQ0 := Lib.hid (show SideBox w0 w.heap.size 0 (.slice none 0 0) by rw [hw0]; exact heap_alloc_new w _)
  have HB1 := Lib.hid (stBits_any b ao c l t E 8 w0 (h.same k0 (fun x => x)) (hv.kept k0 (fun _ _ x => x)) hvb hc ht hl (by omega))
  have hlt := bitsR_lt l t E
  have hSR : sideR l t E = if (if (bitsR l t E 8).2.2 = 0 ∧ 160 < (bitsR l t E 8).1 then 4 else (bitsR l t E 8).2.2) ≠ 0 ∨ (bitsR l t E 8).1 = 0 then (0, 0, (bitsR l t E 8).2.1, (if (bitsR l t E 8).2.2 = 0 ∧ 160 < (bitsR l t E 8).1 then 4 else (bitsR l t E 8).2.2)) else (zagI (smallR l (bitsR l t E 8).2.1 0).1, (bitsR l t E 8).1, (smallR l (bitsR l t E 8).2.1 0).2.1, (smallR l (bitsR l t E 8).2.1 0).2.2) := rfl
  obtain ⟨R, hR⟩ : ∃ R, R = bitsR l t E 8 := ⟨_, rfl⟩
  rw [← hR] at HB1 hlt hSR
  clear hR
  obtain ⟨n, t1, E1⟩ := R
  unfold StTo at HB1
  dsimp only at HB1 hlt hSR
  have ht1 := hlt.2 ht
  have HSM := Lib.hid fun w' (k : StB w' b (.slice ao l.length c) t1 0) (kv : SlAt w' (.slice ao l.length c) (ints l)) => stSmall_any b ao c l t1 0 w' k kv hc ht1 hl
  have hsu : (smallR l t1 0).1 < 18446744073709551616 := by unfold smallR; rw [if_neg (fun e => e rfl)]; exact gotSmall_u64 _
  obtain ⟨SM, hSM⟩ : ∃ R, R = smallR l t1 0 := ⟨_, rfl⟩
  rw [← hSM] at HSM hSR hsu
  clear hSM
  obtain ⟨sv, t2, E2⟩ := SM
  unfold StTo at HSM
  dsimp only at HSM hSR hsu
  have HZ := Lib.hid fun w' => refZag_any (sv : Int) (by omega) (by omega) w'
  obtain ⟨off, hoff⟩ : ∃ z, z = zagI (sv : Int) := ⟨_, rfl⟩
  rw [← hoff] at HZ hSR
  have HV0 := Lib.hid (hv.kept k0 (fun _ _ x => x))
  have HVB := Lib.hid hvb
  obtain ⟨Ln, hLn⟩ : ∃ k, k = l.length := ⟨_, rfl⟩
  rw [← hLn] at HB1 HSM HV0 HVB ⊢
  obtain ⟨q, hq⟩ : ∃ q, q = w.heap.size := ⟨_, rfl⟩
  rw [← hq] at HQ0
  have HQ := Lib.hid hq
  have HW0 := Lib.hid hw0
  have HK0 := Lib.hid k0
  have HQB := Lib.hid (show q ≠ b ∧ w.heap.size ≤ q from ⟨by omega, by omega⟩)
  have hn256 := hlt.1
  obtain ⟨SR, hSRR⟩ : ∃ R, R = sideR l t E := ⟨_, rfl⟩
  rw [← hSRR] at hSR ⊢
  by_cases hE1 : E1 = 0
  · by_cases hbig : 160 < n
    · have g1 : (160 : Int) < (n : Int) := by omega
      have e1 : ((E1 : Int) == 0) = true := beqT (by omega)
      have HR := Lib.hid (show SR = (0, 0, t1, 4) by rw [hSR, show (if E1 = 0 ∧ 160 < n then 4 else E1) = 4 from if_pos ⟨hE1, hbig⟩, if_pos (Or.inl (by decide))])
      subst hE1
      clear h hv hvb hc ht hl hb0 hw0 k0 hlt hSR ht1 hsu hoff hLn hq hSRR hbig hn256
      go_enter Tryd.func78, Tryd.ntmps78
      go_upto_region 1 with fail
      rw [← HW0.out, ← HQ.out]
      go_wp2_with fail
      refine HB1.out.mono ?_
      rintro e w1 ⟨rfl, hs, hk⟩
      have HS1 := Lib.hid hs
      have HK1 := Lib.hid ((show Kept (fun k => k = b) w w0 from keptTo HK0.out).trans hk)
      have HQ1 := Lib.hid (HQ0.out.same hk HQB.out.1)
      clear hs hk
      obtain ⟨⟨c0, c1, c2⟩, f1, f2⟩ := HS1.out.c
      go_upto_region 4 with fail
      obtain ⟨w2, hw2⟩ : ∃ w', w' = w1.setCell ⟨b, 2, none⟩ (.int .i64 4) := ⟨_, rfl⟩
      rw [← hw2]
      have k2 : Kept (fun k => k = b) w1 w2 := by rw [hw2]; exact (Kept.refl (fun k => k = b) w1).setCell (p := ⟨b, 2, none⟩) (fun _ => rfl) _
      have HS2 := Lib.hid (show StB w2 b (.slice ao Ln c) t1 4 by rw [hw2]; exact HS1.out.setE 4)
      have HQ2 := Lib.hid (HQ1.out.same k2 HQB.out.1)
      have HK2 := Lib.hid (HK1.out.trans k2)
      clear hw2 k2 c0 c1 c2 f1 f2
      obtain ⟨⟨c0, c1, c2⟩, f1, f2⟩ := HS2.out.c
      obtain ⟨⟨x0, x1⟩, g0, g1'⟩ := HQ2.out.c
      go_wp2
      try simp only [Exit.inBlock, Exit.then]
      refine side_end Tryd.results78 rfl rfl (HQ2.out.set 0 (.slice none 0 0)) ?_
      rw [HR.out]
      exact ⟨_, rfl, OwnU.nil _ _, HS2.out.same (((Kept.refl (fun k => k = q) w2).setCell (p := ⟨q, 0, none⟩) (fun _ => rfl) _).setCell (p := ⟨q, 1, none⟩) (fun _ => rfl) _) (fun e => HQB.out.1 e.symm), HK2.out.new (((Kept.refl (fun k => k = q) w2).setCell (p := ⟨q, 0, none⟩) (fun _ => rfl) _).setCell (p := ⟨q, 1, none⟩) (fun _ => rfl) _) HQB.out.2⟩
    · by_cases hn0 : n = 0
      · have g1 : ¬ (160 : Int) < (n : Int) := by omega
        have e1 : ((E1 : Int) == 0) = true := beqT (by omega)
        have e2 : ((E1 : Int) != 0) = false := bneF (by omega)
        have e3 : ((n : Int) == 0) = true := beqT (by omega)
        have HR := Lib.hid (show SR = (0, 0, t1, 0) by rw [hSR, show (if E1 = 0 ∧ 160 < n then 4 else E1) = 0 from (if_neg (fun e => hbig e.2)).trans hE1, if_pos (Or.inr hn0)])
        subst hE1
        clear h hv hvb hc ht hl hb0 hw0 k0 hlt hSR ht1 hsu hoff hLn hq hSRR hn256 hbig hn0
        go_enter Tryd.func78, Tryd.ntmps78
        go_upto_region 1 with fail
        rw [← HW0.out, ← HQ.out]
        go_wp2_with fail
        refine HB1.out.mono ?_
        rintro e w1 ⟨rfl, hs, hk⟩
        have HS1 := Lib.hid hs
        have HK1 := Lib.hid ((show Kept (fun k => k = b) w w0 from keptTo HK0.out).trans hk)
        have HQ1 := Lib.hid (HQ0.out.same hk HQB.out.1)
        have HV1 := Lib.hid (HV0.out.kept hk (fun k e e2 => HVB.out (by rw [e, e2])))
        clear hs hk
        obtain ⟨⟨c0, c1, c2⟩, f1, f2⟩ := HS1.out.c
        obtain ⟨⟨x0, x1⟩, g0, g1'⟩ := HQ1.out.c
        go_wp2
        try simp only [Exit.inBlock, Exit.then]
        refine side_end Tryd.results78 rfl rfl (HQ1.out.set 0 (.slice none 0 0)) ?_
        rw [HR.out]
        exact ⟨_, rfl, OwnU.nil _ _, HS1.out.same (((Kept.refl (fun k => k = q) w1).setCell (p := ⟨q, 0, none⟩) (fun _ => rfl) _).setCell (p := ⟨q, 1, none⟩) (fun _ => rfl) _) (fun e => HQB.out.1 e.symm), HK1.out.new (((Kept.refl (fun k => k = q) w1).setCell (p := ⟨q, 0, none⟩) (fun _ => rfl) _).setCell (p := ⟨q, 1, none⟩) (fun _ => rfl) _) HQB.out.2⟩
      · have g1 : ¬ (160 : Int) < (n : Int) := by omega
        have e1 : ((E1 : Int) == 0) = true := beqT (by omega)
        have e2 : ((E1 : Int) != 0) = false := bneF (by omega)
        have e3 : ((n : Int) == 0) = false := beqF (by omega)
        have HR := Lib.hid (show SR = (off, n, t2, E2) by rw [hSR, show (if E1 = 0 ∧ 160 < n then 4 else E1) = 0 from (if_neg (fun e => hbig e.2)).trans hE1, if_neg (by rintro (e | e); exact e rfl; exact hn0 e)])
        subst hE1
        have HN := Lib.hid (show n ≤ 160 by omega)
        clear h hv hvb hc ht hl hb0 hw0 k0 hlt hSR ht1 hsu hoff hLn hq hSRR hn256 hbig hn0
        go_enter Tryd.func78, Tryd.ntmps78
        go_upto_region 1 with fail
        rw [← HW0.out, ← HQ.out]
        go_wp2_with fail
        refine HB1.out.mono ?_
        rintro e w1 ⟨rfl, hs, hk⟩
        have HS1 := Lib.hid hs
        have HK1 := Lib.hid ((show Kept (fun k => k = b) w w0 from keptTo HK0.out).trans hk)
        have HQ1 := Lib.hid (HQ0.out.same hk HQB.out.1)
        have HV1 := Lib.hid (HV0.out.kept hk (fun k e e2 => HVB.out (by rw [e, e2])))
        clear hs hk
        obtain ⟨⟨c0, c1, c2⟩, f1, f2⟩ := HS1.out.c
        go_wp2_with fail
        refine (HSM.out w1 HS1.out HV1.out).mono ?_
        rintro e w2 ⟨rfl, hs, hk⟩
        have HS2 := Lib.hid hs
        have HK2 := Lib.hid (HK1.out.trans hk)
        have HQ2 := Lib.hid (HQ1.out.same hk HQB.out.1)
        clear hs hk c0 c1 c2 f1 f2
        go_wp2_with fail
        refine (HZ.out w2).mono ?_
        rintro e w' ⟨rfl, rfl⟩
        obtain ⟨w3, hw3⟩ : ∃ w', w' = w2.alloc (.cells #[.int .i64 off, .slice none 0 0] 60) := ⟨_, rfl⟩
        have k3 : Kept (fun _ => False) w2 w3 := by rw [hw3]; exact (Kept.refl _ _).alloc _
        have HW3 := Lib.hid hw3
        obtain ⟨qs, hqs⟩ : ∃ x, x = w2.heap.size := ⟨_, rfl⟩
        have HB3 := Lib.hid (show SideBox w3 qs off (.slice none 0 0) by rw [hw3, hqs]; exact heap_alloc_new w2 _)
        have HS3 := Lib.hid (HS2.out.same k3 (fun x => x))
        have HQ3 := Lib.hid (HQ2.out.same k3 (fun x => x))
        have HK3 := Lib.hid (HK2.out.step k3 (fun _ _ e => e.elim))
        have hq2 := (Array.getElem?_eq_some_iff.1 HQ2.out).1
        have hb2 := (Array.getElem?_eq_some_iff.1 HS2.out).1
        have HQS := Lib.hid (show qs ≠ q ∧ qs ≠ b ∧ w.heap.size ≤ qs from ⟨by omega, by omega, by have := HQB.out; omega⟩)
        clear hw3 k3 hq2 hb2
        go_upto_region 7 with fail
        rw [← HW3.out, ← hqs]
        clear hqs
        go_wp2
        go_loopg [5] n (fun g s5 wr => ∃ j : Nat, j ≤ n ∧ g = n - j ∧ s5 = .int .i64 j ∧ ∃ u, SideBox wr qs off u ∧ OwnU w wr u (List.replicate j 0) ∧ StB wr b (.slice ao Ln c) t2 E2 ∧ SideBox wr q 0 (.slice none 0 0) ∧ Kept (fun k => k = b) w wr)
        case atStart => exact ⟨0, Nat.zero_le _, rfl, rfl, _, HB3.out, OwnU.nil _ _, HS3.out, HQ3.out, HK3.out⟩
        case round =>
          obtain ⟨j, hj, rfl, rfl, u, hbx, hu, hst, hqx, hkk⟩ := hrel
          obtain ⟨au, cu, eu⟩ := hu.slice
          obtain ⟨nu, hnu⟩ : ∃ k, k = (List.replicate j 0).length := ⟨_, rfl⟩
          rw [← hnu] at eu
          subst eu
          rw [List.length_replicate] at hnu
          have HBX := Lib.hid hbx
          have HU := Lib.hid hu
          have HST := Lib.hid hst
          have HQX := Lib.hid hqx
          have HKK := Lib.hid hkk
          have HNU := Lib.hid hnu
          obtain ⟨⟨x0, x1⟩, g0, g1'⟩ := hbx.c
          clear hbx hu hst hqx hkk hnu
          by_cases hd : j < n
          · have hdi : (j : Int) < (n : Int) := by omega
            have HD := Lib.hid hd
            have wi : IntKind.i64.wrap ((j : Int) + 1) = ((j + 1 : Nat) : Int) := by rw [IntWalk.i64_in _ ⟨by omega, by have := HN.out; omega⟩]; omega
            have HREP : Hid (List.replicate (j + 1) 0 = List.replicate j 0 ++ [0]) := Lib.hid List.replicate_succ'
            have HLL := Lib.hid (show (List.replicate j 0).length ≤ 1000000 by rw [List.length_replicate]; have := HN.out; omega)
            have k4 : Kept (fun _ => False) wr (wr.alloc (.cells #[.int .u64 0] 28)) := (Kept.refl _ _).alloc _
            have HU4 := Lib.hid (HU.out.kept k4 (fun _ _ x => x))
            have HBX4 := Lib.hid (HBX.out.same k4 (fun x => x))
            have HST4 := Lib.hid (HST.out.same k4 (fun x => x))
            have HQX4 := Lib.hid (HQX.out.same k4 (fun x => x))
            have HKK4 := Lib.hid (HKK.out.step k4 (fun _ _ e => e.elim))
            clear hd k4
            go_wp2_with (at_builtin; refine wpList_ownU rfl (.tmp 40) (.tmp 41) rfl w (.slice au nu cu) (List.replicate j 0) rfl HU4.out HKK4.out.size _ 0 rfl (src_oneU wr (.int .u64 0) rfl) HLL.out ?_; intro v5 w5 ho hk5 hat; obtain ⟨a5, c5, e5⟩ := ho.slice; obtain ⟨n5, hn5⟩ : ∃ k, k = (List.replicate j 0 ++ [0]).length := ⟨_, rfl⟩; rw [← hn5] at e5; subst e5; have HN5 := Lib.hid hn5; have HO := Lib.hid ho; have HB5 := Lib.hid (HBX4.out.same hk5 (own_box HU4.out HBX4.out (by decide))); have HS5 := Lib.hid (HST4.out.same hk5 (own_box HU4.out HST4.out (by decide))); have HQ5 := Lib.hid (HQX4.out.same hk5 (own_box HU4.out HQX4.out (by decide))); have HK5 := Lib.hid (HKK4.out.step hk5 (fun k hk e => absurd (ownsRow_lt HU4.out e).2 (by omega))); obtain ⟨⟨y0, y1⟩, h0, h1⟩ := HB5.out.c; clear ho hk5 hat hn5)
            have hset : SideBox (w5.setCell ⟨qs, 1, none⟩ (.slice a5 n5 c5)) qs off (.slice a5 n5 c5) := heap_setCell_same _ _ 1 _ _ _ HB5.out
            have k6 : Kept (fun k => k = qs) w5 (w5.setCell ⟨qs, 1, none⟩ (.slice a5 n5 c5)) := (Kept.refl (fun k => k = qs) w5).setCell (p := ⟨qs, 1, none⟩) (fun _ => rfl) _
            go_roundg (n - (j + 1))
            case measure => have := HD.out; omega
            case rel => exact ⟨j + 1, HD.out, rfl, rfl, _, hset, by rw [HREP.out]; exact HO.out.kept k6 (fun k e e2 => own_box HO.out HB5.out (by decide) (by rw [e, e2])), HS5.out.same k6 (fun e => HQS.out.2.1 e.symm), HQ5.out.same k6 (fun e => HQS.out.1 e.symm), HK5.out.new k6 HQS.out.2.2⟩
          · obtain rfl : n = j := by omega
            obtain ⟨⟨z0, z1⟩, h0, h1⟩ := HQX.out.c
            clear hd
            go_wp2
            try simp only [Exit.inBlock, Exit.then]
            refine side_end Tryd.results78 rfl rfl (HQX.out.set off (.slice au nu cu)) ?_
            rw [HR.out]
            have k7 := ((Kept.refl (fun k => k = q) wr).setCell (p := ⟨q, 0, none⟩) (fun _ => rfl) (.int .i64 off)).setCell (p := ⟨q, 1, none⟩) (fun _ => rfl) (.slice au nu cu)
            exact ⟨_, rfl, HU.out.kept k7 (fun k e e2 => own_box HU.out HQX.out (by decide) (by rw [e, e2])), HST.out.same k7 (fun e => HQB.out.1 e.symm), HKK.out.new k7 HQB.out.2⟩
  · have e1 : ((E1 : Int) == 0) = false := beqF (by omega)
    have e2 : ((E1 : Int) != 0) = true := bneT (by omega)
    have HR := Lib.hid (show SR = (0, 0, t1, E1) by rw [hSR, show (if E1 = 0 ∧ 160 < n then 4 else E1) = E1 from if_neg (fun e => hE1 e.1), if_pos (Or.inl hE1)])
    clear h hv hvb hc ht hl hb0 hw0 k0 hlt hSR ht1 hsu hoff hLn hq hSRR hn256 hE1
    go_enter Tryd.func78, Tryd.ntmps78
    go_upto_region 1 with fail
    rw [← HW0.out, ← HQ.out]
    go_wp2_with fail
    refine HB1.out.mono ?_
    rintro e w1 ⟨rfl, hs, hk⟩
    have HS1 := Lib.hid hs
    have HK1 := Lib.hid ((show Kept (fun k => k = b) w w0 from keptTo HK0.out).trans hk)
    have HQ1 := Lib.hid (HQ0.out.same hk HQB.out.1)
    have HV1 := Lib.hid (HV0.out.kept hk (fun k e e2 => HVB.out (by rw [e, e2])))
    clear hs hk
    obtain ⟨⟨c0, c1, c2⟩, f1, f2⟩ := HS1.out.c
    obtain ⟨⟨x0, x1⟩, g0, g1'⟩ := HQ1.out.c
    go_wp2
    try simp only [Exit.inBlock, Exit.then]
    refine side_end Tryd.results78 rfl rfl (HQ1.out.set 0 (.slice none 0 0)) ?_
    rw [HR.out]
    exact ⟨_, rfl, OwnU.nil _ _, HS1.out.same (((Kept.refl (fun k => k = q) w1).setCell (p := ⟨q, 0, none⟩) (fun _ => rfl) _).setCell (p := ⟨q, 1, none⟩) (fun _ => rfl) _) (fun e => HQB.out.1 e.symm), HK1.out.new (((Kept.refl (fun k => k = q) w1).setCell (p := ⟨q, 0, none⟩) (fun _ => rfl) _).setCell (p := ⟨q, 1, none⟩) (fun _ => rfl) _) HQB.out.2⟩
end Go.Proofs.YtjpnfadmblmjbaaDoor
/- Layer 10, plainly: what is taken, put anew, has the very bits. -/
namespace Go.Proofs.YtjpnfadmblmjbaaDoor
open Go.RowKit

theorem take_more (l : List Bool) (a b : Nat) : l.take a ++ (l.drop a).take b = l.take (a + b) := (List.take_add).symm
theorem stN_canonF (l : List Bool) (k : Nat) (h : (stN readF l k).2.2 = 0) : (stN readF l k).1.flatMap smallB = l.take (stN readF l k).2.1 := by
  induction k with
  | zero => simp [stN]
  | succ k ih =>
    have h0 := stN_down readF l (k + 1) k h (by omega)
    have ih := ih h0
    have hs := stN_succ readF l k h0
    rw [hs] at h ⊢
    split at h
    · rename_i hg; exact absurd h hg
    · rename_i hg
      rw [if_neg hg]
      have hg0 : (gotSmall (l.drop (stN readF l k).2.1)).2.2 = 0 := Decidable.of_not_not hg
      have hc := smallB_got _ hg0
      dsimp only
      rw [List.flatMap_append, ih]
      simp only [List.flatMap_cons, List.flatMap_nil, List.append_nil]
      have e : (readF k (l.drop (stN readF l k).2.1)).1 = (gotSmall (l.drop (stN readF l k).2.1)).1 := rfl
      have e2 : (readF k (l.drop (stN readF l k).2.1)).2.1 = (gotSmall (l.drop (stN readF l k).2.1)).2.1 := rfl
      rw [e, e2, hc, take_more]
theorem difB_snoc (C D : List Nat) (x : Nat) : difB (C ++ [x]) D = difB C D ++ smallB (zgN (difI x (D.getD C.length 0))) := by
  have h := difB_take (C ++ [x]) D C.length (by simp)
  rw [List.take_of_length_le (by simp), List.take_left] at h
  rw [h]
  congr 4
  simp
theorem stN_canonD (D : List Nat) (l : List Bool) (k : Nat) (h : (stN (readD D) l k).2.2 = 0) : difB (stN (readD D) l k).1 D = l.take (stN (readD D) l k).2.1 := by
  induction k with
  | zero => simp [stN, difB]
  | succ k ih =>
    have h0 := stN_down (readD D) l (k + 1) k h (by omega)
    have ih := ih h0
    have hl := stN_len (readD D) l k h0
    have hs := stN_succ (readD D) l k h0
    rw [hs] at h ⊢
    split at h
    · rename_i hg; exact absurd h hg
    · rename_i hg
      rw [if_neg hg]
      have hg0 : (gotSmall (l.drop (stN (readD D) l k).2.1)).2.2 = 0 := Decidable.of_not_not hg
      have hc := smallB_got _ hg0
      have hv := gotSmall_u64 (l.drop (stN (readD D) l k).2.1)
      dsimp only
      rw [difB_snoc, hl, ih]
      have e : (readD D k (l.drop (stN (readD D) l k).2.1)).1 = addU (D.getD k 0) (zagI ((gotSmall (l.drop (stN (readD D) l k).2.1)).1 : Int)) := rfl
      have e2 : (readD D k (l.drop (stN (readD D) l k).2.1)).2.1 = (gotSmall (l.drop (stN (readD D) l k).2.1)).2.1 := rfl
      rw [e, e2, dif_addU _ _ (zagI_range _ (by omega) (by omega)), zgN_zag _ hv, hc, take_more]
theorem gotSide_canon (l : List Bool) (h : (gotSide l).2.2.2 = 0) : sideB (gotSide l).1 (gotSide l).2.1 = l.take (gotSide l).2.2.1 := by
  rcases gotSide_cases l with ⟨_, e⟩ | ⟨h8, n, hn, _, ⟨_, e⟩ | ⟨hz, e⟩ | ⟨h1, h2, e⟩⟩
  · rw [e] at h; exact absurd h (by decide)
  · rw [e] at h; exact absurd h (by decide)
  · rw [e]
    dsimp only
    unfold sideB
    rw [if_pos rfl, List.append_nil]
    have hb := bitsN_numB_take l 8 h8
    rw [← hn, hz] at hb
    exact hb
  · rw [e] at h ⊢
    dsimp only at h ⊢
    unfold sideB
    rw [if_neg (by omega), zgN_zag _ (gotSmall_u64 _), smallB_got _ h, hn, bitsN_numB_take l 8 h8, take_more]
def shB (s : ShV) : List Bool := bitsN (s.sc + 10).toNat 5 ++ sideB s.po s.pn ++ sideB s.no s.nn
theorem shB_of (h : HistV) : shapeB h = shB (shOf h) := rfl
theorem gotShape_canon (l : List Bool) (h : (gotShape l).2.2 = 0) : shB (gotShape l).1 = l.take (gotShape l).2.1 := by
  rcases gotShape_cases l with ⟨_, e⟩ | ⟨h5, n, hn, hn2, a, ha, ⟨hne, e⟩ | ⟨ha0, b, hb, e⟩⟩
  · rw [e] at h; exact absurd h (by decide)
  · rw [e] at h; exact absurd h hne
  · rw [e] at h ⊢
    dsimp only at h ⊢
    have c1 := gotSide_canon (l.drop 5) (by rw [← ha]; exact ha0)
    have c2 := gotSide_canon (l.drop (5 + a.2.2.1)) (by rw [← hb]; exact h)
    rw [← ha] at c1
    rw [← hb] at c2
    unfold shB
    dsimp only
    rw [c1, c2, show ((n : Int) - 10 + 10).toNat = n by omega, hn, bitsN_numB_take l 5 h5, take_more, take_more]
theorem cnt_mk (s : ShV) (v : List Nat) (h : v.length = 1 + s.pn + s.nn) : cntL (mkH s v) = v ∧ shOf (mkH s v) = s := by
  obtain ⟨sc, po, pn, no, nn⟩ := s
  dsimp only at h
  cases v with
  | nil => simp at h; omega
  | cons x v =>
    have hv : v.length = pn + nn := by simp at h; omega
    unfold mkH cntL shOf
    dsimp only
    simp only [List.getD_cons_zero, List.drop_succ_cons, List.drop_zero, Nat.add_comm 1]
    refine ⟨by rw [List.take_append_drop], ?_⟩
    rw [List.length_take, List.length_drop, Nat.min_eq_left (by omega), show v.length - pn = nn by omega]
theorem gotC_canon {f : Nat → List Bool → Nat × Nat × Nat} {s : ShV} {l : List Bool} {h : HistV} {N : Nat} (hg : gotC f s l = (h, N, 0)) : (stN f l (1 + s.pn + s.nn)).2.2 = 0 ∧ h = mkH s (stN f l (1 + s.pn + s.nn)).1 ∧ N = (stN f l (1 + s.pn + s.nn)).2.1 ∧ h.err = 0 ∧ cntL h = (stN f l (1 + s.pn + s.nn)).1 ∧ shOf h = s := by
  unfold gotC at hg
  simp only at hg
  split at hg
  · rename_i hne
    injection hg with h1 h2
    injection h2 with h2 h3
    exact absurd h3 hne
  · rename_i hne
    have h0 : (stN f l (1 + s.pn + s.nn)).2.2 = 0 := Decidable.of_not_not hne
    injection hg with h1 h2
    injection h2 with h2 h3
    have hl := stN_len f l _ h0
    have hc := cnt_mk s _ hl
    rw [h1] at hc h3
    exact ⟨h0, h1.symm, h2.symm, h3, hc.1, hc.2⟩
/-- What was taken, put anew, has the very bits. -/
theorem gotH_canon {n N : Nat} {g h : HistV} {l : List Bool} (hg : gotH n g l = (h, N, 0)) : nextH n g h = l.take N ∧ h.err = 0 := by
  unfold gotH at hg
  split at hg
  · injection hg with _ h2; injection h2 with _ h3; exact absurd h3 (by decide)
  · rename_i hlen
    have hd1 : l.take 1 = [l.getD 0 false] := by
      cases l with
      | nil => exact absurd (by simp) hlen
      | cons a l => rfl
    split at hg
    · rename_i hb
      split at hg
      · injection hg with _ h2; injection h2 with _ h3; exact absurd h3 (by decide)
      · rename_i hn0
        simp only at hg
        obtain ⟨r, hr⟩ : ∃ r, r = gotC (readD (cntL g)) (shOf g) (l.drop 1) := ⟨_, rfl⟩
        rw [← hr] at hg
        obtain ⟨r1, r2, r3⟩ := r
        dsimp only at hg
        injection hg with e1 e2
        injection e2 with e2 e3
        subst e1 e3
        obtain ⟨h0, hm, hN, he, hcn, hsh⟩ := gotC_canon hr.symm
        have hal : alikeH r1 g := by
          unfold shOf at hsh
          injection hsh with a1 a2 a3 a4 a5
          exact ⟨a1, a2, a3, a4, a5⟩
        refine ⟨?_, he⟩
        unfold nextH
        rw [if_pos ⟨by omega, hal⟩, hcn, stN_canonD (cntL g) (l.drop 1) _ h0, ← hN, ← e2, ← take_more, hd1, hb]
        rfl
    · rename_i hb
      simp only at hg
      split at hg
      · rename_i hs
        injection hg with _ h2; injection h2 with _ h3; exact absurd h3 hs
      · rename_i hs
        obtain ⟨r, hr⟩ : ∃ r, r = gotC readF (gotShape (l.drop 1)).1 (l.drop (1 + (gotShape (l.drop 1)).2.1)) := ⟨_, rfl⟩
        rw [← hr] at hg
        obtain ⟨r1, r2, r3⟩ := r
        dsimp only at hg
        split at hg
        · rename_i hr3
          injection hg with _ h2; injection h2 with _ h3; exact absurd h3 hr3
        · rename_i hr3
          split at hg
          · injection hg with _ h2; injection h2 with _ h3; exact absurd h3 (by decide)
          · rename_i hna
            have hr30 : r3 = 0 := Decidable.of_not_not hr3
            subst hr30
            injection hg with e1 e2
            injection e2 with e2 _
            subst e1
            have hs0 : (gotShape (l.drop 1)).2.2 = 0 := Decidable.of_not_not hs
            obtain ⟨h0, hm, hN, he, hcn, hsh⟩ := gotC_canon hr.symm
            refine ⟨?_, he⟩
            have hsc := gotShape_canon (l.drop 1) hs0
            have hna2 : ¬ (0 < n ∧ alikeH r1 g) := by
              rintro ⟨h1, a1, a2, a3, a4, a5⟩
              refine hna ⟨h1, ?_⟩
              rw [← hsh]
              unfold shOf
              rw [a1, a2, a3, a4, a5]
            have hbf : l.getD 0 false = false := by cases hx : l.getD 0 false with | true => exact absurd hx hb | false => rfl
            unfold nextH
            rw [if_neg hna2, shB_of, hsh, hcn, hsc, stN_canonF _ _ h0, ← hN, ← e2, Nat.add_assoc, ← take_more l 1, hd1, hbf, ← take_more (l.drop 1), List.drop_drop]
            rfl
end Go.Proofs.YtjpnfadmblmjbaaDoor
/- Layer 10, plainly: what the document reads is what the program reads. -/
namespace Go.Proofs.YtjpnfadmblmjbaaDoor
open Go.RowKit

/-- The k-th number. -/
def numW : Option (List Nat) → Nat → Nat → Nat
  | none, _, v => v
  | some D, k, v => addU (D.getD k 0) (zagI (v : Int))
/-- Numbers read one behind the other by the document's state; was: the counts that are gone on from, if the shape stays. -/
def smN (was : Option (List Nat)) (l : List Bool) (t E : Nat) : Nat → List Nat × Nat × Nat
  | 0 => ([], t, E)
  | k + 1 =>
    let s := smN was l t E k
    let r := smallR l s.2.1 s.2.2
    (s.1 ++ [numW was k r.1], r.2.1, r.2.2)
def readW : Option (List Nat) → Nat → List Bool → Nat × Nat × Nat
  | none => readF
  | some D => readD D
theorem smN_succ (was : Option (List Nat)) (l : List Bool) (t E k : Nat) : smN was l t E (k + 1) = ((smN was l t E k).1 ++ [numW was k (smallR l (smN was l t E k).2.1 (smN was l t E k).2.2).1], (smallR l (smN was l t E k).2.1 (smN was l t E k).2.2).2.1, (smallR l (smN was l t E k).2.1 (smN was l t E k).2.2).2.2) := rfl
theorem smN_bad (was : Option (List Nat)) (l : List Bool) (t E k : Nat) (h : E ≠ 0) : (smN was l t E k).2.2 = E ∧ (smN was l t E k).2.1 = t := by
  induction k with
  | zero => exact ⟨rfl, rfl⟩
  | succ k ih =>
    rw [smN_succ]
    dsimp only
    rw [ih.1, ih.2]
    unfold smallR
    rw [if_pos h]
    exact ⟨rfl, rfl⟩
theorem smN_stay (was : Option (List Nat)) (l : List Bool) (t k : Nat) (h : (smN was l t 0 k).2.2 ≠ 0) : (smN was l t 0 (k + 1)).2.2 = (smN was l t 0 k).2.2 := by
  rw [smN_succ]
  dsimp only
  unfold smallR
  rw [if_pos h]
theorem smN_st (was : Option (List Nat)) (l : List Bool) (t k : Nat) : (smN was l t 0 k).2.2 = (stN (readW was) (l.drop t) k).2.2 ∧ ((stN (readW was) (l.drop t) k).2.2 = 0 → (smN was l t 0 k).1 = (stN (readW was) (l.drop t) k).1 ∧ (smN was l t 0 k).2.1 = t + (stN (readW was) (l.drop t) k).2.1) := by
  induction k with
  | zero => exact ⟨rfl, fun _ => ⟨rfl, rfl⟩⟩
  | succ k ih =>
    obtain ⟨i1, i2⟩ := ih
    rcases Nat.decEq (stN (readW was) (l.drop t) k).2.2 0 with h0 | h0
    · have hs := stN_stop (readW was) (l.drop t) k h0 1
      have hm := smN_stay was l t k (by rw [i1]; exact h0)
      rw [hs, hm]
      exact ⟨i1, fun e => absurd e h0⟩
    · obtain ⟨j1, j2⟩ := i2 h0
      have hs := stN_succ (readW was) (l.drop t) k h0
      have hE : ((readW was) k ((l.drop t).drop (stN (readW was) (l.drop t) k).2.1)).2.2 = (gotSmall (l.drop (t + (stN (readW was) (l.drop t) k).2.1))).2.2 := by
        rw [List.drop_drop]; cases was <;> rfl
      have hN : ((readW was) k ((l.drop t).drop (stN (readW was) (l.drop t) k).2.1)).2.1 = (gotSmall (l.drop (t + (stN (readW was) (l.drop t) k).2.1))).2.1 := by
        rw [List.drop_drop]; cases was <;> rfl
      have hV : ((readW was) k ((l.drop t).drop (stN (readW was) (l.drop t) k).2.1)).1 = numW was k (gotSmall (l.drop (t + (stN (readW was) (l.drop t) k).2.1))).1 := by
        rw [List.drop_drop]; cases was <;> rfl
      have hsm : smallR l (smN was l t 0 k).2.1 (smN was l t 0 k).2.2 = ((gotSmall (l.drop (t + (stN (readW was) (l.drop t) k).2.1))).1, t + (stN (readW was) (l.drop t) k).2.1 + (gotSmall (l.drop (t + (stN (readW was) (l.drop t) k).2.1))).2.1, (gotSmall (l.drop (t + (stN (readW was) (l.drop t) k).2.1))).2.2) := by
        unfold smallR
        rw [if_neg (by rw [i1, h0]; exact fun e => e rfl), j2]
      rw [smN_succ]
      rw [hsm, hs, hE, hN, hV, j1]
      dsimp only
      split
      · rename_i hne
        exact ⟨rfl, fun e => absurd e hne⟩
      · rename_i hne
        exact ⟨Decidable.of_not_not hne, fun _ => ⟨rfl, by rw [Nat.add_assoc]⟩⟩
theorem bitsR_ok {l : List Bool} {t n : Nat} (h : n ≤ l.length - t) : bitsR l t 0 n = (numB ((l.drop t).take n), t + n, 0) := by
  unfold bitsR; rw [if_neg (fun e => e rfl), if_neg (by omega)]
theorem bitsR_short {l : List Bool} {t n : Nat} (h : l.length - t < n) : bitsR l t 0 n = (0, t, 2) := by
  unfold bitsR; rw [if_neg (fun e => e rfl), if_pos h]
theorem bitsR_bad {l : List Bool} {t n E : Nat} (h : E ≠ 0) : bitsR l t E n = (0, t, E) := by unfold bitsR; rw [if_pos h]
theorem sideR_bad {l : List Bool} {t E : Nat} (h : E ≠ 0) : sideR l t E = (0, 0, t, E) := by
  unfold sideR
  rw [bitsR_bad h]
  dsimp only
  rw [show (if E = 0 ∧ 160 < 0 then 4 else E) = E from if_neg (fun e => h e.1), if_pos (Or.inl h)]
/-- A side that is read is the program's; an error is the same. -/
theorem sideR_got {l : List Bool} {t : Nat} : (sideR l t 0).2.2.2 = (gotSide (l.drop t)).2.2.2 ∧ ((gotSide (l.drop t)).2.2.2 = 0 → sideR l t 0 = ((gotSide (l.drop t)).1, (gotSide (l.drop t)).2.1, t + (gotSide (l.drop t)).2.2.1, 0)) := by
  have hdl : (l.drop t).length = l.length - t := List.length_drop
  rcases gotSide_cases (l.drop t) with ⟨h, e⟩ | ⟨h8, n, hn, _, ⟨h, e⟩ | ⟨h, e⟩ | ⟨h1, h2, e⟩⟩
  · have hb := bitsR_short (l := l) (t := t) (n := 8) (by omega)
    unfold sideR
    rw [hb, e]
    dsimp only
    rw [show (if (2 : Nat) = 0 ∧ 160 < 0 then 4 else 2) = 2 from if_neg (fun e => by omega), if_pos (Or.inl (by decide))]
    exact ⟨rfl, fun e => absurd e (by decide)⟩
  · have hb := bitsR_ok (l := l) (t := t) (n := 8) (by omega)
    rw [← hn] at hb
    unfold sideR
    rw [hb, e]
    dsimp only
    rw [show (if (0 : Nat) = 0 ∧ 160 < n then 4 else 0) = 4 from if_pos ⟨rfl, h⟩, if_pos (Or.inl (by decide))]
    exact ⟨rfl, fun e => absurd e (by decide)⟩
  · have hb := bitsR_ok (l := l) (t := t) (n := 8) (by omega)
    rw [← hn] at hb
    unfold sideR
    rw [hb, e]
    dsimp only
    rw [show (if (0 : Nat) = 0 ∧ 160 < n then 4 else 0) = 0 from if_neg (fun e => by omega), if_pos (Or.inr h)]
    exact ⟨rfl, fun _ => rfl⟩
  · have hb := bitsR_ok (l := l) (t := t) (n := 8) (by omega)
    rw [← hn] at hb
    unfold sideR
    rw [hb, e]
    dsimp only
    rw [show (if (0 : Nat) = 0 ∧ 160 < n then 4 else 0) = 0 from if_neg (fun e => by omega), if_neg (by rintro (e | e); exact e rfl; omega)]
    unfold smallR
    rw [if_neg (fun e => e rfl), List.drop_drop]
    refine ⟨rfl, fun e0 => ?_⟩
    dsimp only at e0 ⊢
    rw [e0, Nat.add_assoc]
end Go.Proofs.YtjpnfadmblmjbaaDoor
/- Layer 10, plainly: the document's Get is the program's. -/
namespace Go.Proofs.YtjpnfadmblmjbaaDoor
open Go.RowKit

/-- The end of the document's Get. -/
def finD (n : Nat) (g : HistV) (same : Bool) (sh : ShV) (s : List Nat × Nat × Nat) : HistV × Nat × Nat :=
  if s.2.2 ≠ 0 then (zeroH, 0, s.2.2)
  else if (mkH sh s.1).err ≠ 0 then (zeroH, 0, (mkH sh s.1).err)
  else if same = false ∧ 0 < n ∧ sh = shOf g then (zeroH, 0, 3)
  else (mkH sh s.1, s.2.1, 0)
/-- The document's Get. -/
def docG (n : Nat) (g : HistV) (l : List Bool) : HistV × Nat × Nat :=
  if (bitsR l 0 0 1).1 = 1 then
    if n = 0 then (zeroH, 0, 3)
    else finD n g true (shOf g) (smN (some (cntL g)) l (bitsR l 0 0 1).2.1 (bitsR l 0 0 1).2.2 (1 + g.pl.length + g.nl.length))
  else
    let b := bitsR l (bitsR l 0 0 1).2.1 (bitsR l 0 0 1).2.2 5
    let p := sideR l b.2.1 b.2.2
    let q := sideR l p.2.2.1 p.2.2.2
    finD n g false ⟨(b.1 : Int) - 10, p.1, p.2.1, q.1, q.2.1⟩ (smN none l q.2.2.1 q.2.2.2 (1 + p.2.1 + q.2.1))
/-- A result, with nothing beside an error. -/
def errG (R : HistV × Nat × Nat) : HistV × Nat × Nat := if R.2.2 ≠ 0 then (zeroH, 0, R.2.2) else R
theorem errG_bad {R : HistV × Nat × Nat} (h : R.2.2 ≠ 0) : errG R = (zeroH, 0, R.2.2) := if_pos h
theorem finD_bad {n : Nat} {g : HistV} {same : Bool} {sh : ShV} {s : List Nat × Nat × Nat} (h : s.2.2 ≠ 0) : finD n g same sh s = (zeroH, 0, s.2.2) := if_pos h
theorem finD_smbad {n : Nat} {g : HistV} {same : Bool} {sh : ShV} {was : Option (List Nat)} {l : List Bool} {t E k : Nat} (h : E ≠ 0) : finD n g same sh (smN was l t E k) = (zeroH, 0, E) := by
  have hs := smN_bad was l t E k h
  rw [finD_bad (by rw [hs.1]; exact h), hs.1]
/-- Numbers that are read: the histogram, or the error. -/
theorem finD_got (n : Nat) (g : HistV) (same : Bool) (sh : ShV) (was : Option (List Nat)) (l : List Bool) (t : Nat) :
    finD n g same sh (smN was l t 0 (1 + sh.pn + sh.nn)) = (let r := gotC (readW was) sh (l.drop t); if r.2.2 ≠ 0 then (zeroH, 0, r.2.2) else if same = false ∧ 0 < n ∧ sh = shOf g then (zeroH, 0, 3) else (r.1, t + r.2.1, 0)) := by
  obtain ⟨h1, h2⟩ := smN_st was l t (1 + sh.pn + sh.nn)
  unfold finD gotC
  dsimp only
  by_cases h0 : (stN (readW was) (l.drop t) (1 + sh.pn + sh.nn)).2.2 = 0
  · obtain ⟨h3, h4⟩ := h2 h0
    rw [if_neg (by rw [h1, h0]; exact fun e => e rfl), if_neg (show ¬ (stN (readW was) (l.drop t) (1 + sh.pn + sh.nn)).2.2 ≠ 0 from fun e => e h0), h3, h4]
  · rw [if_pos (by rw [h1]; exact h0), if_pos (show (stN (readW was) (l.drop t) (1 + sh.pn + sh.nn)).2.2 ≠ 0 from h0), h1]
    dsimp only
    rw [if_pos h0]
theorem docG_got (n : Nat) (g : HistV) (l : List Bool) : docG n g l = errG (gotH n g l) := by
  rcases Nat.lt_or_ge l.length 1 with hA | hA
  · rw [gotH_A hA]
    have h1 : bitsR l 0 0 1 = (0, 0, 2) := bitsR_short (by omega)
    unfold docG
    rw [h1]
    dsimp only
    rw [if_neg (by decide), bitsR_bad (by decide)]
    dsimp only
    rw [sideR_bad (by decide)]
    dsimp only
    rw [sideR_bad (by decide)]
    dsimp only
    rw [finD_smbad (by decide)]
    rfl
  · have h1 := bitsR_ok (l := l) (t := 0) (n := 1) (by omega)
    rw [List.drop_zero, numB_one l hA, Nat.zero_add] at h1
    by_cases hb : l.getD 0 false = true
    · rw [if_pos hb] at h1
      unfold docG
      rw [h1]
      dsimp only
      rw [if_pos rfl]
      have hG : gotH n g l = if n = 0 then (zeroH, 0, 3) else ((gotC (readD (cntL g)) (shOf g) (l.drop 1)).1, 1 + (gotC (readD (cntL g)) (shOf g) (l.drop 1)).2.1, (gotC (readD (cntL g)) (shOf g) (l.drop 1)).2.2) := by
        unfold gotH
        rw [if_neg (by omega), if_pos hb]
      rw [hG]
      by_cases hn : n = 0
      · rw [if_pos hn, if_pos hn]; rfl
      · rw [if_neg hn, if_neg hn]
        have hf := finD_got n g true (shOf g) (some (cntL g)) l 1
        have e : 1 + (shOf g).pn + (shOf g).nn = 1 + g.pl.length + g.nl.length := rfl
        rw [e] at hf
        rw [hf]
        dsimp only
        have er : readW (some (cntL g)) = readD (cntL g) := rfl
        rw [er]
        obtain ⟨r, hr⟩ : ∃ r, r = gotC (readD (cntL g)) (shOf g) (l.drop 1) := ⟨_, rfl⟩
        rw [← hr]
        unfold errG
        dsimp only
        by_cases h0 : r.2.2 = 0
        · have hh : ¬ (r.2.2 ≠ 0) := fun e => e h0
          have hx : ¬ (true = false ∧ 0 < n ∧ shOf g = shOf g) := fun e => by have := e.1; cases this
          rw [if_neg hh, if_neg hx, if_neg hh, h0]
        · rw [if_pos h0, if_pos h0]
    · rw [if_neg hb] at h1
      have hd1 : ∀ k, (l.drop 1).drop k = l.drop (1 + k) := fun k => List.drop_drop
      have hdl : (l.drop 1).length = l.length - 1 := List.length_drop
      unfold docG
      rw [h1]
      dsimp only
      rw [if_neg (by decide)]
      rcases gotShape_cases (l.drop 1) with ⟨h5, e⟩ | ⟨h5, m, hm, _, a, ha, hrest⟩
      · rw [gotH_C hA hb (by rw [e]; decide), e]
        rw [bitsR_short (show l.length - 1 < 5 by omega)]
        dsimp only
        rw [sideR_bad (by decide)]
        dsimp only
        rw [sideR_bad (by decide)]
        dsimp only
        rw [finD_smbad (by decide)]
        rfl
      · rw [bitsR_ok (show 5 ≤ l.length - 1 by omega), ← hm]
        dsimp only
        rw [hd1] at ha
        have hs := sideR_got (l := l) (t := 1 + 5)
        rw [← ha] at hs
        rcases hrest with ⟨hae, e⟩ | ⟨hae, b, hb2, e⟩
        · rw [gotH_C hA hb (by rw [e]; exact hae), e, hs.1, sideR_bad hae]
          dsimp only
          rw [finD_smbad hae, errG_bad hae]
        · have hp := hs.2 hae
          rw [hp]
          dsimp only
          rw [hd1, ← Nat.add_assoc] at hb2
          have hs2 := sideR_got (l := l) (t := 1 + 5 + a.2.2.1)
          rw [← hb2] at hs2
          by_cases hbe : b.2.2.2 = 0
          · have hq := hs2.2 hbe
            rw [hq]
            dsimp only
            have hgd := gotH_D (n := n) (g := g) hA hb (by rw [e]; exact hbe) (r := gotC readF (gotShape (l.drop 1)).1 (l.drop (1 + (gotShape (l.drop 1)).2.1))) rfl
            rw [hgd, e]
            dsimp only
            have hf := finD_got n g false ⟨(m : Int) - 10, a.1, a.2.1, b.1, b.2.1⟩ none l (1 + 5 + a.2.2.1 + b.2.2.1)
            dsimp only at hf
            rw [hf]
            have er : readW none = readF := rfl
            rw [er, show 1 + (5 + a.2.2.1 + b.2.2.1) = 1 + 5 + a.2.2.1 + b.2.2.1 by omega]
            obtain ⟨r, hr⟩ : ∃ r, r = gotC readF ⟨(m : Int) - 10, a.1, a.2.1, b.1, b.2.1⟩ (l.drop (1 + 5 + a.2.2.1 + b.2.2.1)) := ⟨_, rfl⟩
            rw [← hr]
            by_cases h0 : r.2.2 = 0
            · have hh : ¬ (r.2.2 ≠ 0) := fun e => e h0
              rw [if_neg hh, if_neg hh]
              by_cases hc : 0 < n ∧ (⟨(m : Int) - 10, a.1, a.2.1, b.1, b.2.1⟩ : ShV) = shOf g
              · rw [if_pos hc, if_pos ⟨rfl, hc⟩]; rfl
              · rw [if_neg hc, if_neg (fun e => hc e.2)]; rfl
            · rw [if_pos h0, if_pos h0]
              exact (if_pos h0).symm
          · rw [hs2.1, finD_smbad hbe, gotH_C hA hb (by rw [e]; exact hbe), e]
            dsimp only
            rw [errG_bad hbe]
end Go.Proofs.YtjpnfadmblmjbaaDoor
/- package limnographref10: Get: its result's block, and what it begins with. -/
namespace Go.Proofs.YtjpnfadmblmjbaaDoor
open Go.RowKit
attribute [local go_sem ↓] Go.wp_at_zero Go.wp_at_succ

theorem got10_info : (Tryd.prog.info? 75).map (·.size) = some 8 := by kernel_rfl
/-- A result in its block: a histogram, how many bits it took, an error. -/
def GotB (w : World) (q : Nat) (h : HistV) (pv nv : Value) (N E : Nat) : Prop := w.heap[q]? = some (.cells #[.int .i64 h.sc, .int .u64 (h.ze : Int), .int .i64 h.po, pv, .int .i64 h.no, nv, .int .i64 (N : Int), .int .i64 (E : Int)] 75 (0, 0))
theorem GotB.c {w : World} {q : Nat} {h : HistV} {pv nv : Value} {N E : Nat} (b : GotB w q h pv nv N E) : w.cell? ⟨q, 0, none⟩ = some (.int .i64 h.sc) ∧ w.cell? ⟨q, 1, none⟩ = some (.int .u64 (h.ze : Int)) ∧ w.cell? ⟨q, 2, none⟩ = some (.int .i64 h.po) ∧ w.cell? ⟨q, 3, none⟩ = some pv ∧ w.cell? ⟨q, 4, none⟩ = some (.int .i64 h.no) ∧ w.cell? ⟨q, 5, none⟩ = some nv ∧ w.cell? ⟨q, 6, none⟩ = some (.int .i64 (N : Int)) ∧ w.cell? ⟨q, 7, none⟩ = some (.int .i64 (E : Int)) := by
  refine ⟨?_, ?_, ?_, ?_, ?_, ?_, ?_, ?_⟩
  · rw [cell_of_row _ _ 0 _ _ _ b]; rfl
  · rw [cell_of_row _ _ 1 _ _ _ b]; rfl
  · rw [cell_of_row _ _ 2 _ _ _ b]; rfl
  · rw [cell_of_row _ _ 3 _ _ _ b]; rfl
  · rw [cell_of_row _ _ 4 _ _ _ b]; rfl
  · rw [cell_of_row _ _ 5 _ _ _ b]; rfl
  · rw [cell_of_row _ _ 6 _ _ _ b]; rfl
  · rw [cell_of_row _ _ 7 _ _ _ b]; rfl
theorem GotB.f {w : World} {q : Nat} {h : HistV} {pv nv : Value} {N E : Nat} (b : GotB w q h pv nv N E) (j : Nat) : w.frozen? ⟨q, j, none⟩ = false := by
  unfold GotB at b; simp [World.frozen?, b]
theorem GotB.same {S : Nat → Prop} {w w' : World} {q : Nat} {h : HistV} {pv nv : Value} {N E : Nat} (b : GotB w q h pv nv N E) (hk : Kept S w w') (hn : ¬ S q) : GotB w' q h pv nv N E := hk.same b hn
/-- Eight cells are set one behind the other. -/
def set8 (w : World) (q : Nat) (a b c d e f g h : Value) : World := (((((((w.setCell ⟨q, 0, none⟩ a).setCell ⟨q, 1, none⟩ b).setCell ⟨q, 2, none⟩ c).setCell ⟨q, 3, none⟩ d).setCell ⟨q, 4, none⟩ e).setCell ⟨q, 5, none⟩ f).setCell ⟨q, 6, none⟩ g).setCell ⟨q, 7, none⟩ h
theorem GotB.set {w : World} {q : Nat} {h : HistV} {pv nv : Value} {N E : Nat} (b : GotB w q h pv nv N E) (h' : HistV) (pv' nv' : Value) (N' E' : Nat) : GotB (set8 w q (.int .i64 h'.sc) (.int .u64 (h'.ze : Int)) (.int .i64 h'.po) pv' (.int .i64 h'.no) nv' (.int .i64 (N' : Int)) (.int .i64 (E' : Int))) q h' pv' nv' N' E' := by
  unfold GotB set8 at *; simp [World.setCell, Array.getElem?_modify, b]
theorem set8_kept (w : World) (q : Nat) (a b c d e f g h : Value) : Kept (fun k => k = q) w (set8 w q a b c d e f g h) :=
  (((((((((Kept.refl (fun k => k = q) w).setCell (p := ⟨q, 0, none⟩) (fun _ => rfl) a).setCell (p := ⟨q, 1, none⟩) (fun _ => rfl) b).setCell (p := ⟨q, 2, none⟩) (fun _ => rfl) c).setCell (p := ⟨q, 3, none⟩) (fun _ => rfl) d).setCell (p := ⟨q, 4, none⟩) (fun _ => rfl) e).setCell (p := ⟨q, 5, none⟩) (fun _ => rfl) f).setCell (p := ⟨q, 6, none⟩) (fun _ => rfl) g).setCell (p := ⟨q, 7, none⟩) (fun _ => rfl) h)
/-- A result as a value. -/
def got10V (R : HistV × Nat × Nat) (pv nv : Value) : Value := .agg #[.int .i64 R.1.sc, .int .u64 (R.1.ze : Int), .int .i64 R.1.po, pv, .int .i64 R.1.no, nv, .int .i64 (R.2.1 : Int), .int .i64 (R.2.2 : Int)]
theorem got10_end {fn : Func} {p : Tmp} {a : Act} {P : Ending → World → Prop} {w : World} {q : Nat} {R : HistV × Nat × Nat} {pv nv : Value} (hres : fn.results = #[.cell p 75]) (hp : a.tmps.getD p undef = .pointer (some ⟨q, 0, none⟩)) (hd : a.defers = [])
    (hg : GotB w q R.1 pv nv R.2.1 R.2.2) (h : P (.returned (got10V R pv nv)) w) : bodyPost Tryd.prog fn P .ret a w :=
  bodyPost_ret (v := got10V R pv nv) (results_cell_row hres _ _ q 75 _ (0, 0) _ hp hg Tryd.underlying75 rfl got10_info) hd h
/-- Counts that lie in blocks from n on. -/
def NewC (n : Nat) (pv nv : Value) : Prop := ∀ k, pv.ownBlock = some k ∨ nv.ownBlock = some k → n ≤ k
theorem newC_nil (n : Nat) : NewC n (.slice none 0 0) (.slice none 0 0) := by rintro k (e | e) <;> cases e
/-- What the document's Get answers and leaves. -/
def GetD (w : World) (R : HistV × Nat × Nat) (e : Ending) (w' : World) : Prop := ∃ pv nv, e = .returned (got10V R pv nv) ∧ HistAt w' R.1 pv nv ∧ NewC w.heap.size pv nv ∧ Kept (fun _ => False) w w'

set_option maxHeartbeats 8000000 in
set_option maxRecDepth 100000 in
theorem refGet10_A (rc : Nat) (ao : Option Addr) (c : Nat) (l : List Bool) (w : World) (hv : SlAt w (.slice ao l.length c) (ints l)) (hvo : ∀ k, (Value.slice ao l.length c).ownBlock = some k → k < w.heap.size) (hc : l.length ≤ c) (hl : l.length ≤ 100000000) (rao : Option Addr)
    (h1 : (bitsR l 0 0 1).1 = 1) (g : HistV) :
    Calls Tryd.prog 45 #[.slice rao 0 rc, .slice ao l.length c] w (GetD w (docG 0 g l)) := by
  have hD : docG 0 g l = (zeroH, 0, 3) := by unfold docG; rw [if_pos h1, if_pos rfl]
  rw [hD]
  obtain ⟨w0, hw0⟩ : ∃ w0, w0 = w.alloc (.cells #[.int .i64 0, .int .u64 0, .int .i64 0, .slice none 0 0, .int .i64 0, .slice none 0 0, .int .i64 0, .int .i64 0] 75) := ⟨_, rfl⟩
  have k0 : Kept (fun _ => False) w w0 := by rw [hw0]; exact (Kept.refl _ _).alloc _
  have HG0 := Lib.hid (show GotB w0 w.heap.size zeroH (.slice none 0 0) (.slice none 0 0) 0 0 by rw [hw0]; exact heap_alloc_new w _)
  obtain ⟨w1, hw1⟩ : ∃ w1, w1 = w0.alloc (.cells #[.slice ao l.length c, .int .i64 0, .int .i64 0] 112) := ⟨_, rfl⟩
  have k1 : Kept (fun _ => False) w0 w1 := by rw [hw1]; exact (Kept.refl _ _).alloc _
  have hs1 : StB w1 w0.heap.size (.slice ao l.length c) 0 0 := by rw [hw1]; exact heap_alloc_new w0 _
  have hs0 : w0.heap.size = w.heap.size + 1 := by rw [hw0]; simp
  have HB := Lib.hid (stBits_any w0.heap.size ao c l 0 0 1 w1 hs1 (hv.kept (k0.trans k1) (fun _ _ x => x)) (fun e => by have := hvo _ e; omega) hc (Nat.zero_le _) hl (by omega))
  obtain ⟨R, hR⟩ : ∃ R, R = bitsR l 0 0 1 := ⟨_, rfl⟩
  rw [← hR] at HB h1
  obtain ⟨v1, t1, E1⟩ := R
  dsimp only at h1
  subst h1
  unfold StTo at HB
  dsimp only at HB
  obtain ⟨qg, hqg⟩ : ∃ q, q = w.heap.size := ⟨_, rfl⟩
  obtain ⟨qs, hqs⟩ : ∃ q, q = w0.heap.size := ⟨_, rfl⟩
  rw [← hqg] at HG0
  rw [← hqs] at HB
  have HQ := Lib.hid (And.intro hqg (And.intro hqs hs0))
  have HG1 := Lib.hid (HG0.out.same k1 (fun x => x))
  have HK1 := Lib.hid (k0.trans k1)
  have HW0 := Lib.hid hw0
  have HW1 := Lib.hid hw1
  clear hv hvo hc hl hD hw0 k0 hw1 k1 hs1 hs0 hR hqg hqs
  go_enter Tryd.func45, Tryd.ntmps45
  go_upto_region 1 with fail
  rw [← HW0.out, ← HQ.out.1]
  go_upto_region 2 with fail
  rw [← HW1.out, ← HQ.out.2.1]
  go_wp2_with fail
  refine HB.out.mono ?_
  rintro e w2 ⟨rfl, hs, hk⟩
  have HG2 := Lib.hid (HG1.out.same hk (fun e => by have := HQ.out; omega))
  have HK2 : Hid (Kept (fun _ => False) w w2) := Lib.hid (HK1.out.new hk (by have := HQ.out; omega))
  clear hs hk
  obtain ⟨x0, x1, x2, x3, x4, x5, x6, x7⟩ := HG2.out.c
  have f0 := HG2.out.f 0
  have f1 := HG2.out.f 1
  have f2 := HG2.out.f 2
  have f3 := HG2.out.f 3
  have f4 := HG2.out.f 4
  have f5 := HG2.out.f 5
  have f6 := HG2.out.f 6
  have f7 := HG2.out.f 7
  dsimp only [zeroH] at x0 x1 x2 x3 x4 x5
  go_wp2
  try simp only [Exit.inBlock, Exit.then]
  refine got10_end (R := (zeroH, 0, 3)) (pv := .slice none 0 0) (nv := .slice none 0 0) Tryd.results45 rfl rfl (HG2.out.set zeroH (.slice none 0 0) (.slice none 0 0) 0 3) ?_
  exact ⟨_, _, rfl, ⟨slAt_nil _, slAt_nil _⟩, newC_nil _, HK2.out.new (set8_kept _ _ _ _ _ _ _ _ _ _) (by have := HQ.out; omega)⟩
end Go.Proofs.YtjpnfadmblmjbaaDoor
/- Layer 10, plainly: bounds of what the document reads. -/
namespace Go.Proofs.YtjpnfadmblmjbaaDoor
open Go.RowKit

theorem bitsR_le {l : List Bool} {t E n : Nat} (h : t ≤ l.length) : (bitsR l t E n).2.1 ≤ l.length := by
  unfold bitsR
  split
  · exact h
  · split
    · exact h
    · show t + n ≤ l.length; omega
theorem bitsR_five (l : List Bool) (t E : Nat) : (bitsR l t E 5).1 < 32 := by
  unfold bitsR
  split
  · exact (by decide : 0 < 32)
  · split
    · exact (by decide : 0 < 32)
    · have := numB_lt ((l.drop t).take 5)
      rw [List.length_take, List.length_drop, Nat.min_eq_left (by omega)] at this
      exact this
theorem smallR_le {l : List Bool} {t E : Nat} (h : t ≤ l.length) : (smallR l t E).2.1 ≤ l.length := by
  unfold smallR
  split
  · exact h
  · have := gotSmall_le (l.drop t)
    rw [List.length_drop] at this
    show t + _ ≤ l.length
    omega
theorem smallR_u64 (l : List Bool) (t E : Nat) : (smallR l t E).1 < 18446744073709551616 := by
  unfold smallR
  split
  · exact (by decide : 0 < 18446744073709551616)
  · exact gotSmall_u64 _
theorem sideR_le {l : List Bool} {t E : Nat} (h : t ≤ l.length) : (sideR l t E).2.2.1 ≤ l.length ∧ (sideR l t E).2.1 ≤ 160 ∧ -9223372036854775808 ≤ (sideR l t E).1 ∧ (sideR l t E).1 ≤ 9223372036854775807 := by
  have hb := bitsR_le (E := E) (n := 8) h
  unfold sideR
  obtain ⟨R, hR⟩ : ∃ R, R = bitsR l t E 8 := ⟨_, rfl⟩
  rw [← hR] at hb ⊢
  obtain ⟨n, t1, E1⟩ := R
  dsimp only at hb ⊢
  obtain ⟨E2, hE2⟩ : ∃ e, e = (if E1 = 0 ∧ 160 < n then 4 else E1) := ⟨_, rfl⟩
  rw [← hE2]
  by_cases hn : E2 ≠ 0 ∨ n = 0
  · rw [if_pos hn]
    exact ⟨hb, (by decide : 0 ≤ 160), by show -9223372036854775808 ≤ (0 : Int); decide, by show (0 : Int) ≤ 9223372036854775807; decide⟩
  · rw [if_neg hn]
    have h1 := smallR_le (E := 0) hb
    have h2 := smallR_u64 l t1 0
    have h3 := zagI_range ((smallR l t1 0).1 : Int) (by omega) (by omega)
    refine ⟨h1, ?_, h3.1, h3.2⟩
    show n ≤ 160
    apply Classical.byContradiction
    intro hc
    apply hn
    left
    rw [hE2]
    by_cases hE : E1 = 0
    · rw [if_pos ⟨hE, by omega⟩]; decide
    · rw [if_neg (fun e => hE e.1)]; exact hE
theorem smN_le {was : Option (List Nat)} {l : List Bool} {t E : Nat} (h : t ≤ l.length) (k : Nat) : (smN was l t E k).2.1 ≤ l.length := by
  induction k with
  | zero => exact h
  | succ k ih => rw [smN_succ]; exact smallR_le ih
theorem smN_len (was : Option (List Nat)) (l : List Bool) (t E k : Nat) : (smN was l t E k).1.length = k := by
  induction k with
  | zero => rfl
  | succ k ih => rw [smN_succ]; show (_ ++ [_]).length = k + 1; rw [List.length_append, ih]; rfl
theorem numW_u64 (was : Option (List Nat)) (k v : Nat) (h : v < 18446744073709551616) : numW was k v < 18446744073709551616 := by
  cases was with
  | none => exact h
  | some D => exact addU_lt _ _
theorem smN_u64 (was : Option (List Nat)) (l : List Bool) (t E k : Nat) : ∀ x ∈ (smN was l t E k).1, x < 18446744073709551616 := by
  induction k with
  | zero => intro x hx; exact absurd hx (by show ¬ x ∈ ([] : List Nat); simp)
  | succ k ih =>
    rw [smN_succ]
    intro x hx
    rcases List.mem_append.1 hx with hx | hx
    · exact ih x hx
    · rw [List.mem_singleton] at hx
      rw [hx]
      exact numW_u64 _ _ _ (smallR_u64 _ _ _)
/-- A shape of the machine's numbers. -/
def ShV.ok (s : ShV) : Prop := (-9223372036854775808 ≤ s.sc ∧ s.sc ≤ 9223372036854775807) ∧ (-9223372036854775808 ≤ s.po ∧ s.po ≤ 9223372036854775807) ∧ (-9223372036854775808 ≤ s.no ∧ s.no ≤ 9223372036854775807) ∧ s.pn ≤ 160 ∧ s.nn ≤ 160
theorem mkH_ok {s : ShV} {v : List Nat} (h : s.ok) (hv : ∀ x ∈ v, x < 18446744073709551616) : (mkH s v).ok := by
  refine ⟨h.1, ?_, h.2.1, ?_, h.2.2.1, ?_⟩
  · exact getD_u64 hv 0
  · intro x hx
    exact hv x (List.mem_of_mem_drop (List.mem_of_mem_take hx))
  · intro x hx
    exact hv x (List.mem_of_mem_drop hx)
end Go.Proofs.YtjpnfadmblmjbaaDoor
/- package limnographref10: the state of Get while it reads. -/
namespace Go.Proofs.YtjpnfadmblmjbaaDoor
open Go.RowKit

/-- The result's block, the state's, the histogram's. -/
structure GS (W w : World) (qg qs qh : Nat) (lv : Value) (l : List Bool) (t E : Nat) (hx : HistV) (pv nv : Value) : Prop where
  g : GotB w qg zeroH (.slice none 0 0) (.slice none 0 0) 0 0
  s : StB w qs lv t E
  h : HistBox w qh hx pv nv
  v : SlAt w lv (ints l)
  k : Kept (fun _ => False) W w
  og : W.heap.size ≤ qg
  os : W.heap.size ≤ qs
  oh : W.heap.size ≤ qh
  e : ∃ ao c, lv = .slice ao l.length c ∧ l.length ≤ c
  lb : ∀ k, lv.ownBlock = some k → k < W.heap.size
  ht : t ≤ l.length
  hl : l.length ≤ 100000000
section
variable {W w w' wb : World} {qg qs qh : Nat} {lv : Value} {l : List Bool} {t E t' E' : Nat} {hx hx' : HistV} {pv nv pv' nv' u : Value} {ul : List Nat}
theorem GS.ne (X : GS W w qg qs qh lv l t E hx pv nv) : qg ≠ qs ∧ qg ≠ qh ∧ qs ≠ qh := ⟨block_ne X.g X.s (by decide), block_ne X.g X.h (by decide), block_ne X.s X.h (by decide)⟩
theorem GS.on (X : GS W w qg qs qh lv l t E hx pv nv) (k : Kept (fun _ => False) w w') : GS W w' qg qs qh lv l t E hx pv nv :=
  ⟨X.g.same k (fun x => x), X.s.same k (fun x => x), X.h.same k (fun x => x), X.v.kept k (fun _ _ x => x), X.k.trans k, X.og, X.os, X.oh, X.e, X.lb, X.ht, X.hl⟩
theorem GS.stTo (X : GS W w qg qs qh lv l t E hx pv nv) (hs : StB w' qs lv t' E') (k : Kept (fun k => k = qs) w w') (ht : t' ≤ l.length) : GS W w' qg qs qh lv l t' E' hx pv nv :=
  ⟨X.g.same k X.ne.1, hs, X.h.same k (fun e => X.ne.2.2 e.symm), X.v.kept k (fun j e e2 => by have := X.lb j e; have := X.os; omega), X.k.new k X.os, X.og, X.os, X.oh, X.e, X.lb, ht, X.hl⟩
theorem GS.hset (X : GS W w qg qs qh lv l t E hx pv nv) (hb : HistBox w' qh hx' pv' nv') (k : Kept (fun k => k = qh) w w') : GS W w' qg qs qh lv l t E hx' pv' nv' :=
  ⟨X.g.same k X.ne.2.1, X.s.same k X.ne.2.2, hb, X.v.kept k (fun j e e2 => by have := X.lb j e; have := X.oh; omega), X.k.new k X.oh, X.og, X.os, X.oh, X.e, X.lb, X.ht, X.hl⟩
theorem GS.grown (X : GS W w qg qs qh lv l t E hx pv nv) (ho : OwnU wb w u ul) (hb : W.heap.size ≤ wb.heap.size) (k : Kept (fun k => u.ownBlock = some k) w w') : GS W w' qg qs qh lv l t E hx pv nv :=
  ⟨X.g.same k (own_box ho X.g (by decide)), X.s.same k (own_box ho X.s (by decide)), X.h.same k (own_box ho X.h (by decide)), X.v.kept k (fun j e e2 => by have := X.lb j e; have := (ownsRow_lt ho e2).2; omega), X.k.newer k (fun j e => by have := (ownsRow_lt ho e).2; omega), X.og, X.os, X.oh, X.e, X.lb, X.ht, X.hl⟩
/-- The histogram's box, whatever it says of the counts. -/
theorem HistBox.any {q : Nat} {sc po no : Int} {ze : Nat} {pl nl pl' nl' : List Nat} (b : HistBox w q ⟨sc, ze, po, pl, no, nl⟩ pv nv) : HistBox w q ⟨sc, ze, po, pl', no, nl'⟩ pv nv := b
theorem HistBox.set0 {q : Nat} (b : HistBox w q hx pv nv) (x : Int) : HistBox (w.setCell ⟨q, 0, none⟩ (.int .i64 x)) q ⟨x, hx.ze, hx.po, hx.pl, hx.no, hx.nl⟩ pv nv := heap_setCell_same _ _ 0 _ _ _ b
theorem HistBox.setP {q : Nat} (b : HistBox w q hx pv nv) (x : Int) (v : Value) : HistBox ((w.setCell ⟨q, 2, none⟩ (.int .i64 x)).setCell ⟨q, 3, none⟩ v) q ⟨hx.sc, hx.ze, x, hx.pl, hx.no, hx.nl⟩ v nv :=
  heap_setCell_same _ _ 3 _ _ _ (show (w.setCell ⟨q, 2, none⟩ (.int .i64 x)).heap[q]? = _ from heap_setCell_same _ _ 2 _ _ _ b)
theorem HistBox.setN {q : Nat} (b : HistBox w q hx pv nv) (x : Int) (v : Value) : HistBox ((w.setCell ⟨q, 4, none⟩ (.int .i64 x)).setCell ⟨q, 5, none⟩ v) q ⟨hx.sc, hx.ze, hx.po, hx.pl, x, hx.nl⟩ pv v :=
  heap_setCell_same _ _ 5 _ _ _ (show (w.setCell ⟨q, 4, none⟩ (.int .i64 x)).heap[q]? = _ from heap_setCell_same _ _ 4 _ _ _ b)
theorem HistBox.setC {q : Nat} (b : HistBox w q hx pv nv) (x : Nat) (v v2 : Value) : HistBox (((w.setCell ⟨q, 1, none⟩ (.int .u64 (x : Int))).setCell ⟨q, 3, none⟩ v).setCell ⟨q, 5, none⟩ v2) q ⟨hx.sc, x, hx.po, hx.pl, hx.no, hx.nl⟩ v v2 :=
  heap_setCell_same _ _ 5 _ _ _ (show ((w.setCell ⟨q, 1, none⟩ (.int .u64 (x : Int))).setCell ⟨q, 3, none⟩ v).heap[q]? = _ from heap_setCell_same _ _ 3 _ _ _ (show (w.setCell ⟨q, 1, none⟩ (.int .u64 (x : Int))).heap[q]? = _ from heap_setCell_same _ _ 1 _ _ _ b))
theorem setC_kept (w : World) (q : Nat) (x y z : Value) : Kept (fun k => k = q) w (((w.setCell ⟨q, 1, none⟩ x).setCell ⟨q, 3, none⟩ y).setCell ⟨q, 5, none⟩ z) :=
  (((Kept.refl (fun k => k = q) w).setCell (p := ⟨q, 1, none⟩) (fun _ => rfl) x).setCell (p := ⟨q, 3, none⟩) (fun _ => rfl) y).setCell (p := ⟨q, 5, none⟩) (fun _ => rfl) z
theorem set2_kept (w : World) (q i j : Nat) (x y : Value) : Kept (fun k => k = q) w ((w.setCell ⟨q, i, none⟩ x).setCell ⟨q, j, none⟩ y) :=
  ((Kept.refl (fun k => k = q) w).setCell (p := ⟨q, i, none⟩) (fun _ => rfl) x).setCell (p := ⟨q, j, none⟩) (fun _ => rfl) y

/-- What a call on the state answers and leaves. -/
def GTo (W w : World) (qg qs qh : Nat) (lv : Value) (l : List Bool) (hx : HistV) (pv nv : Value) (k : IntKind) (R : Nat × Nat × Nat) (e : Ending) (w' : World) : Prop :=
  e = .returned (.int k (R.1 : Int)) ∧ GS W w' qg qs qh lv l R.2.1 R.2.2 hx pv nv ∧ Kept (fun k => k = qs) w w'
theorem gs_small (X : GS W w qg qs qh lv l t E hx pv nv) :
    Calls Tryd.prog 79 #[.pointer (some ⟨qs, 0, none⟩)] w (GTo W w qg qs qh lv l hx pv nv .u64 (smallR l t E)) := by
  obtain ⟨ao, c, rfl, hc⟩ := X.e
  refine (stSmall_any qs ao c l t E w X.s X.v hc X.ht X.hl).mono ?_
  rintro e w1 ⟨rfl, hs, hk⟩
  exact ⟨rfl, X.stTo hs hk (smallR_le X.ht), hk⟩
theorem gs_bits (X : GS W w qg qs qh lv l t E hx pv nv) (n : Nat) (hn : n ≤ 60) :
    Calls Tryd.prog 77 #[.pointer (some ⟨qs, 0, none⟩), .int .i64 n] w (GTo W w qg qs qh lv l hx pv nv .i64 (bitsR l t E n)) := by
  have hlb : lv.ownBlock ≠ some qs := fun e => by have := X.lb _ e; have := X.os; omega
  obtain ⟨ao, c, rfl, hc⟩ := X.e
  refine (stBits_any qs ao c l t E n w X.s X.v hlb hc X.ht X.hl hn).mono ?_
  rintro e w1 ⟨rfl, hs, hk⟩
  exact ⟨rfl, X.stTo hs hk (bitsR_le X.ht), hk⟩
theorem gs_side (X : GS W w qg qs qh lv l t E hx pv nv) :
    Calls Tryd.prog 78 #[.pointer (some ⟨qs, 0, none⟩)] w fun e w' => ∃ a c, e = .returned (.agg #[.int .i64 (sideR l t E).1, .slice a (sideR l t E).2.1 c]) ∧ GS W w' qg qs qh lv l (sideR l t E).2.2.1 (sideR l t E).2.2.2 hx pv nv ∧ Kept (fun k => k = qs) w w' := by
  have hlb : lv.ownBlock ≠ some qs := fun e => by have := X.lb _ e; have := X.os; omega
  obtain ⟨ao, c, rfl, hc⟩ := X.e
  refine (stSide_any qs ao c l t E w X.s X.v hlb hc X.ht X.hl).mono ?_
  rintro e w1 ⟨u, rfl, ho, hs, hk⟩
  obtain ⟨a, c', hu⟩ := ho.slice
  rw [List.length_replicate] at hu
  rw [hu]
  exact ⟨a, c', rfl, X.stTo hs hk (sideR_le X.ht).1, hk⟩
/-- Counts that are cut out of the numbers. -/
theorem mkH_at {a : Option Addr} {n c : Nat} {vs : List Nat} {s : ShV} (h : SlAt w (.slice a n c) (uvals vs)) (hn : n = 1 + s.pn + s.nn) (hc : n ≤ c) :
    HistAt w (mkH s vs) (.slice (if c = 1 then a else a.map (·.add 1)) s.pn (c - 1)) (.slice (if c = 1 + s.pn then a else a.map (·.add (1 + s.pn))) s.nn (c - (1 + s.pn))) := by
  have h1 := h.cut (lo := 1) (hi := 1 + s.pn) (by omega) (by omega) hc
  have h2 := h.cutL (lo := 1 + s.pn) (by omega) hc
  rw [show 1 + s.pn - 1 = s.pn by omega] at h1
  rw [show n - (1 + s.pn) = s.nn by omega] at h2
  unfold uvals at h1 h2
  rw [← List.map_drop, ← List.map_take] at h1
  rw [← List.map_drop] at h2
  exact ⟨h1, h2⟩
theorem alike_sh {h g : HistV} : alikeH g h ↔ shOf h = shOf g := by
  unfold alikeH shOf
  constructor
  · rintro ⟨a, b, c, d, e⟩; rw [a, b, c, d, e]
  · intro e
    injection e with a b c d e
    exact ⟨a.symm, b.symm, c.symm, d.symm, e.symm⟩
end
end Go.Proofs.YtjpnfadmblmjbaaDoor
