/- Layer 18: the document's Cut, Rename (written by tools/gen_XSH.py). -/
import Derived.Test.YtdhfalcjohfdkaaSG
import Derived.Test.YtdhfalcjohfdkaaSA
import Derived.Test.YtdhfalcjohfdkaaG3
namespace Go.Proofs.Ytdhfalcjohfdkaa
open Go.RowKit
attribute [local go_sem ↓] Go.wp_at_zero Go.wp_at_succ

theorem RTo.after {w w3 : World} {rb : Nat} {ao ao' : Option Addr} {L L' : List RF} {r : DA × Int} {e : Ending} {w' : World} (k : Kept (fun k => k = rb) w w3) (hf : RFoot w rb ao L ao' L') (h : RTo w3 rb ao' L' r e w') : RTo w rb ao L r e w' := by
  obtain ⟨a2, c2, L2, h1, h2, h3, h4⟩ := h
  refine ⟨a2, c2, L2, h1, h2, k.trans h3, fun j e => ?_⟩
  rcases h4 j e with x | x
  · exact hf j x
  · exact .inr (Nat.le_trans k.size x)

set_option maxRecDepth 100000 in
set_option maxHeartbeats 4000000 in
theorem refCut_any (rb : Nat) (ao : Option Addr) (cp : Nat) (L : List RF) (D : DA) (s : ByteArray) (m : Int) (w : World) (h : RK w rb ao cp L D) :
    Calls Try.prog 35 #[.pointer (some ⟨rb, 0, none⟩), .string s, .int .i64 m] w (RTo w rb ao L (cutD D s m)) := by
  have HC := Lib.hid (refBegin_any rb ao cp L D w h)
  have HX := Lib.hid (And.intro (fun e : (beginD D).2 ≠ 0 => (show cutD D s m = beginD D from behindD_ne e)) (fun e : (beginD D).2 = 0 => (show cutD D s m = (withF s fun f D => if m < 0 ∨ (f.b.length : Int) < m then (D, 1) else ({ D with L := putS D.L s (cutF f m.toNat) }, 0)) (beginD D).1 from behindD_eq e)))
  have HOK := Lib.hid (cutD_ok h.ok s m)
  obtain ⟨r, hr⟩ : ∃ r, r = beginD D := ⟨_, rfl⟩
  rw [← hr] at HC HX
  obtain ⟨D1, z⟩ := r
  clear hr h
  go_enter Try.func35, Try.ntmps35
  go_wp2_with fail
  refine HC.out.mono ?_
  rintro e w1 ⟨rfl, h1, hk1⟩
  have HD := Lib.hid (And.intro h1 hk1)
  clear h1 hk1
  by_cases hz : z = 0
  · have q0 : (z != 0) = false := bneF hz
    have HY := Lib.hid (HX.out.2 hz)
    subst hz
    have HFD := Lib.hid (refFind_any rb ao cp L D1 s w1 HD.out.1)
    have c0 := HD.out.1.c.1
    obtain ⟨n, hn⟩ : ∃ n, n = L.length := ⟨_, rfl⟩
    rw [← hn] at c0
    have HNL := Lib.hid (show n = L.length ∧ n ≤ 4096 from ⟨hn, by have := HD.out.1.ok.count; have := HD.out.1.len; omega⟩)
    clear hn
    go_wp2_with fail
    refine HFD.out.mono ?_
    rintro e w2 ⟨z, rfl, hzz, rfl⟩
    rcases hzz.get HD.out.1 with ⟨rfl, hg⟩ | ⟨i, f, rfl, hf, hnm, hg⟩
    · have HE := Lib.hid (show (withF s fun f D => if m < 0 ∨ (f.b.length : Int) < m then (D, 1) else ({ D with L := putS D.L s (cutF f m.toNat) }, 0)) D1 = (D1, 7) from by
        show withF s _ D1 = _
        unfold withF
        rw [hg])
      clear hg hzz
      go_wp2
      go_ret
      rw [HY.out, HE.out]
      exact RBegan.to ⟨rfl, HD.out.1, HD.out.2⟩
    · obtain ⟨gg, oo, hga, hgc⟩ := HD.out.1.row (by have := (List.getElem?_eq_some_iff.1 hf).1; omega)
      subst hga
      have hil : i < n := by rw [HNL.out.1]; exact (List.getElem?_eq_some_iff.1 hf).1
      have hin : (i : Int) < (n : Int) := by omega
      have hi0 : (0 : Int) ≤ (i : Int) := by omega
      have hin' : ¬ (i : Int) < 0 := by omega
      have g0 := hgc i f hf 0 (.string f.nm) rfl
      have g1 := hgc i f hf 1 (.slice f.a f.b.length f.c) rfl
      have g2 := hgc i f hf 2 (.int .i64 (f.s : Int)) rfl
      rw [Nat.add_zero] at g0
      have hfm := List.mem_of_getElem? hf
      have hdt := HD.out.1.data f hfm
      have hsm : f.b.length ≤ 4194304 := by
        have h3 := usedL_del HD.out.1.ok.asc.pair s
        rw [hg] at h3
        simp only [szM] at h3
        have := HD.out.1.ok.used
        have := HD.out.1.ok.capR
        omega
      obtain ⟨fnm, fa, fc, fb, fs⟩ := f
      simp only at hnm hg hsm g0 g1 g2
      unfold RF.v at hdt
      simp only at hdt
      obtain ⟨fn, hfn⟩ : ∃ fn, fn = fb.length := ⟨_, rfl⟩
      rw [← hfn] at hdt g1 hsm
      have HFN := Lib.hid (And.intro hfn (And.intro hfm hnm))
      obtain ⟨q, hq⟩ : ∃ q, q = w1.heap.size := ⟨_, rfl⟩
      obtain ⟨wa, hwa⟩ : ∃ wa, wa = w1.alloc (.cells #[.string fnm, .slice fa fn fc, .int .i64 (fs : Int)] 68) := ⟨_, rfl⟩
      have ka : Kept (fun _ => False) w1 wa := by rw [hwa]; exact (Kept.refl _ _).alloc _
      have BA : BoxAt wa q 68 #[.string fnm, .slice fa fn fc, .int .i64 (fs : Int)] := by rw [hwa, hq]; exact BoxAt.new w1 _ _
      have HA := Lib.hid (And.intro (HD.out.1.kept ka (fun _ _ x => x)) (And.intro ka (And.intro BA (And.intro (hdt.1.kept ka (fun _ _ x => x)) hdt.2))))
      have HW := Lib.hid (And.intro hwa hq)
      have HG := Lib.hid hg
      have qA0 : wa.cell? ⟨q, 0, none⟩ = some (.string fnm) := BA.cell rfl
      have qA1 : wa.cell? ⟨q, 1, none⟩ = some (.slice fa fn fc) := BA.cell rfl
      have qA2 : wa.cell? ⟨q, 2, none⟩ = some (.int .i64 (fs : Int)) := BA.cell rfl
      clear hf hgc hfm hdt hnm hg hfn hq hwa ka BA hzz hil

      by_cases hm : m < 0 ∨ (fn : Int) < m
      · have HE := Lib.hid (show (withF s fun f D => if m < 0 ∨ (f.b.length : Int) < m then (D, 1) else ({ D with L := putS D.L s (cutF f m.toNat) }, 0)) D1 = (D1, 1) from by
          show withF s _ D1 = _
          unfold withF
          rw [HG.out]
          show (if m < 0 ∨ (fb.length : Int) < m then _ else _) = _
          rw [if_pos (by rw [← HFN.out.1]; exact hm)])
        rcases hm with hm | hm
        · have hm1 : decide (m < 0) = true := decide_eq_true hm
          go_wp2
          go_ret
          rw [HY.out, HE.out, ← HW.out.1]
          exact RBegan.to ⟨rfl, HA.out.1, HD.out.2.trans (HA.out.2.1.mono (fun _ _ x => x.elim))⟩
        · have hm1 : decide (m < 0) = false := decide_eq_false (by omega)
          have hm2 : decide ((fn : Int) < m) = true := decide_eq_true hm
          have hm3 : ¬ m < 0 := by omega
          go_upto_region 8 with fail
          rw [← HW.out.1, ← HW.out.2]
          go_wp2
          go_ret
          rw [HY.out, HE.out]
          exact RBegan.to ⟨rfl, HA.out.1, HD.out.2.trans (HA.out.2.1.mono (fun _ _ x => x.elim))⟩
      · obtain ⟨v, hv⟩ : ∃ v : Nat, m = (v : Int) := ⟨m.toNat, by omega⟩
        subst hv
        have hvn : v ≤ fn := by omega
        have HE := Lib.hid (show (withF s fun f D => if (v : Int) < 0 ∨ (f.b.length : Int) < (v : Int) then (D, 1) else ({ D with L := putS D.L s (cutF f (v : Int).toNat) }, 0)) D1 = ({ D1 with L := putS D1.L s ⟨fb.take v, min fs v⟩ }, 0) from by
          show withF s _ D1 = _
          unfold withF
          rw [HG.out]
          show (if (v : Int) < 0 ∨ (fb.length : Int) < (v : Int) then _ else _) = _
          rw [if_neg (by rw [← HFN.out.1]; omega)]
          rfl)
        have hm1 : ¬ (v : Int) < 0 := by omega
        have hm2 : ¬ (fn : Int) < (v : Int) := by omega
        have hm2' : decide (fn < v) = false := decide_eq_false (by omega)
        obtain ⟨iI, hiI, hzI0, hzI1, hzI2⟩ := info_parts Try.infoU8
        have hcut := fun w => run_cutH (P := Try.prog) Try.underlying39 hiI hzI1 fa fn fc v (by have := HA.out.2.2.2.2; omega) w
        have hcutA := fun w => run_cutHAt (P := Try.prog) Try.underlying39 hiI hzI1 fa fn fc v (by have := HA.out.2.2.2.2; omega) w
        have hsl : SlAt wa.drew (.slice fa v fc) (byV (fb.take v)) := by
          have := (HA.out.2.2.2.1.kept ((Kept.refl (fun _ => False) wa).drew) (fun _ _ x => x)).takeH (k := v) hvn
          unfold byV at this ⊢
          rw [List.map_take]
          exact this
        have cw1 := run_strL (P := Try.prog) hsl 39 5 9 Try.underlying39 Try.underlying5 Try.underlying9
        obtain ⟨T, hT⟩ : ∃ T, T = strL (fb.take v) := ⟨_, rfl⟩
        have hTb : bl T = fb.take v := by
          rw [hT]
          exact bl_strL (fun x hx => HD.out.1.ok.byte _ (getM_mem HG.out) x (List.mem_of_mem_take hx))
        rw [← hT] at cw1
        have cw3 := bytes_run wa.drew T
        obtain ⟨wc, hwc⟩ : ∃ wc, wc = Lib.bytesWorld wa.drew 5 T := ⟨_, rfl⟩
        obtain ⟨qc, hqc⟩ : ∃ qc, qc = wa.heap.size := ⟨_, rfl⟩
        have hqc2 : wa.drew.heap.size = qc := by rw [hqc]; rfl
        obtain ⟨gc, hgc⟩ : ∃ gc, gc = grownCap wa.drew T.size 0 5 := ⟨_, rfl⟩
        have hat := bytes_at wa.drew T (grownCap wa.drew T.size 0 5)
        have hge := grownCap_ge wa.drew T.size 0 5
        have hTs : T.size = v := by rw [hT, strL_size, List.length_take]; have := HFN.out.1; omega
        have kc : Kept (fun _ => False) wa wc := by rw [hwc]; exact ((Kept.refl _ _).drew).trans (bytes_kept _ T)
        rw [hTs] at cw3 hat hge hgc
        rw [← hwc, hqc2, ← hgc] at cw3 hat
        rw [← hgc] at hge
        rw [hTb] at hat
        have hdb := HA.out.1.kept kc (fun _ _ x => x)
        have HP := Lib.hid (refPut_any rb (some ⟨gg, oo, none⟩) cp L D1 s (some ⟨qc, 0, none⟩) gc v (fb.take v) (min fs v) (by rw [List.length_take]; have := HFN.out.1; omega) wc hdb hat hge (by have := HOK.out; rw [HY.out, HE.out] at this; exact this))
        have emin : (((min fs v : Nat) : Int)) = min (fs : Int) (v : Int) := by omega
        rw [emin] at HP
        have HQC := Lib.hid (And.intro (HA.out.2.1.trans kc) (And.intro hqc HA.out.2.1))
        have HKC := Lib.hid kc
        have HQR : Hid (¬ q = rb) := Lib.hid (fun e => by have := HD.out.1.box.lt; have := HW.out.2; omega)
        have HSS : Hid ((fun w' => w'.cell? ⟨q, 1, none⟩ = some (.slice fa fn fc) ∧ w'.cell? ⟨q, 2, none⟩ = some (.int .i64 (fs : Int))) wa.drew) := Lib.hid ⟨qA1, qA2⟩
        have HSSC : Hid ((fun w' => w'.cell? ⟨q, 1, none⟩ = some (.slice fa fn fc) ∧ w'.cell? ⟨q, 2, none⟩ = some (.int .i64 (fs : Int))) wc) := Lib.hid ⟨(HA.out.2.2.1.kept kc (fun x => x)).cell rfl, (HA.out.2.2.1.kept kc (fun x => x)).cell rfl⟩
        clear hsl hT hTb hwc hqc hqc2 hgc hat hge hTs kc hdb emin hiI hzI0 hzI1 hzI2 hm
        go_upto_region 8 with fail
        rw [← HW.out.1, ← HW.out.2]
        go_upto_region 10 with fail
        refine AnyBut.start (S := fun w' => w'.cell? ⟨q, 1, none⟩ = some (.slice fa fn fc) ∧ w'.cell? ⟨q, 2, none⟩ = some (.int .i64 (fs : Int))) (k := 14) (by kernel_rfl) ?_
        refine AnyBut.takeS (i := 0) (v := ?v1) rfl (by kernel_rfl) (Nat.le_of_eq (by kernel_rfl)) (by kernel_rfl) (by kernel_rfl) (fun _ _ _ h => h) (HSS.out) (Or.inl ⟨by kernel_rfl, ?hy1⟩) ?r1
        case hy1 =>
          intro w hSw
          try dsimp only at hSw
          go_simp
          first | (obtain ⟨y1, y2⟩ := hSw; go_simp) | skip
          try with_reducible rfl
        try simp only [Act.put, List.getElem_toArray, List.getElem_cons_zero, List.setIfInBounds_toArray, List.set_cons_zero, List.set_cons_succ]
        refine AnyBut.takeS (i := 1) (v := ?v2) rfl (by kernel_rfl) (Nat.le_of_eq (by kernel_rfl)) (by kernel_rfl) (by kernel_rfl) (fun _ _ _ h => h) (HSS.out) (Or.inl ⟨by kernel_rfl, ?hy2⟩) ?r2
        case hy2 =>
          intro w hSw
          try dsimp only at hSw
          go_simp
          first | (obtain ⟨y1, y2⟩ := hSw; go_simp) | skip
          try with_reducible rfl
        try simp only [Act.put, List.getElem_toArray, List.getElem_cons_succ, List.getElem_cons_zero, List.setIfInBounds_toArray, List.set_cons_zero, List.set_cons_succ]
        refine AnyBut.takeS (i := 2) (v := ?v3) rfl (by kernel_rfl) (Nat.le_of_eq (by kernel_rfl)) (by kernel_rfl) (by kernel_rfl) (fun _ _ _ h => h) (HSS.out) (Or.inl ⟨by kernel_rfl, ?hy3⟩) ?r3
        case hy3 =>
          intro w hSw
          try dsimp only at hSw
          go_simp
          first | (obtain ⟨y1, y2⟩ := hSw; go_simp) | skip
          try with_reducible rfl
        try simp only [Act.put, List.getElem_toArray, List.getElem_cons_succ, List.getElem_cons_zero, List.setIfInBounds_toArray, List.set_cons_zero, List.set_cons_succ]
        refine AnyBut.takeS (i := 3) (v := ?v4) rfl (by kernel_rfl) (Nat.le_of_eq (by kernel_rfl)) (by kernel_rfl) (by kernel_rfl) (fun _ _ _ h => h) (HSS.out) (Or.inl ⟨by kernel_rfl, ?hy4⟩) ?r4
        case hy4 =>
          intro w hSw
          try dsimp only at hSw
          go_simp
          first | (obtain ⟨y1, y2⟩ := hSw; go_simp) | skip
          try with_reducible rfl
        try simp only [Act.put, List.getElem_toArray, List.getElem_cons_succ, List.getElem_cons_zero, List.setIfInBounds_toArray, List.set_cons_zero, List.set_cons_succ]
        refine AnyBut.takeS (i := 4) (v := ?v5) rfl (by kernel_rfl) (Nat.le_of_eq (by kernel_rfl)) (by kernel_rfl) (by kernel_rfl) (fun _ _ _ h => h) (HSS.out) (Or.inl ⟨by kernel_rfl, ?hy5⟩) ?r5
        case hy5 =>
          intro w hSw
          try dsimp only at hSw
          go_simp
          first | (obtain ⟨y1, y2⟩ := hSw; go_simp) | skip
          try with_reducible rfl
        try simp only [Act.put, List.getElem_toArray, List.getElem_cons_succ, List.getElem_cons_zero, List.setIfInBounds_toArray, List.set_cons_zero, List.set_cons_succ]
        refine AnyBut.takeS (i := 5) (v := ?v6) rfl (by kernel_rfl) (Nat.le_of_eq (by kernel_rfl)) (by kernel_rfl) (by kernel_rfl) (fun _ _ _ h => h) (HSS.out) (Or.inl ⟨by kernel_rfl, ?hy6⟩) ?r6
        case hy6 =>
          intro w hSw
          try dsimp only at hSw
          go_simp
          first | (obtain ⟨y1, y2⟩ := hSw; go_simp) | skip
          try with_reducible rfl
        try simp only [Act.put, List.getElem_toArray, List.getElem_cons_succ, List.getElem_cons_zero, List.setIfInBounds_toArray, List.set_cons_zero, List.set_cons_succ]
        refine AnyBut.takeS (i := 8) (v := ?v7) rfl (by kernel_rfl) (Nat.le_of_eq (by kernel_rfl)) (by kernel_rfl) (by kernel_rfl) (fun _ _ _ h => h) (HSS.out) (Or.inl ⟨by kernel_rfl, ?hy7⟩) ?r7
        case hy7 =>
          intro w hSw
          try dsimp only at hSw
          go_simp
          first | (obtain ⟨y1, y2⟩ := hSw; go_simp) | skip
          try with_reducible rfl
        try simp only [Act.put, List.getElem_toArray, List.getElem_cons_succ, List.getElem_cons_zero, List.setIfInBounds_toArray, List.set_cons_zero, List.set_cons_succ]
        refine AnyBut.takeS (i := 9) (v := ?v8) rfl (by kernel_rfl) (Nat.le_of_eq (by kernel_rfl)) (by kernel_rfl) (by kernel_rfl) (fun _ _ _ h => h) (HSS.out) (Or.inl ⟨by kernel_rfl, ?hy8⟩) ?r8
        case hy8 =>
          intro w hSw
          try dsimp only at hSw
          go_simp
          first | (obtain ⟨y1, y2⟩ := hSw; go_simp) | skip
          try with_reducible rfl
        try simp only [Act.put, List.getElem_toArray, List.getElem_cons_succ, List.getElem_cons_zero, List.setIfInBounds_toArray, List.set_cons_zero, List.set_cons_succ]
        refine AnyBut.takeS (i := 10) (v := ?v9) rfl (by kernel_rfl) (Nat.le_of_eq (by kernel_rfl)) (by kernel_rfl) (by kernel_rfl) (fun _ _ _ h => h) (HSS.out) (Or.inl ⟨by kernel_rfl, ?hy9⟩) ?r9
        case hy9 =>
          intro w hSw
          try dsimp only at hSw
          go_simp
          first | (obtain ⟨y1, y2⟩ := hSw; go_simp) | skip
          try with_reducible rfl
        try simp only [Act.put, List.getElem_toArray, List.getElem_cons_succ, List.getElem_cons_zero, List.setIfInBounds_toArray, List.set_cons_zero, List.set_cons_succ]
        refine AnyBut.takeS (i := 11) (v := ?v10) rfl (by kernel_rfl) (Nat.le_of_eq (by kernel_rfl)) (by kernel_rfl) (by kernel_rfl) (fun _ _ _ h => h) (HSS.out) (Or.inl ⟨by kernel_rfl, ?hy10⟩) ?r10
        case hy10 =>
          intro w hSw
          try dsimp only at hSw
          go_simp
          first | (obtain ⟨y1, y2⟩ := hSw; go_simp) | skip
          try with_reducible rfl
        try simp only [Act.put, List.getElem_toArray, List.getElem_cons_succ, List.getElem_cons_zero, List.setIfInBounds_toArray, List.set_cons_zero, List.set_cons_succ]
        refine AnyBut.one (i := 6) (by kernel_rfl) rfl (fun K hK => ?_)
        go_simp
        refine hK.out _ _ (HSS.out) ?_
        clear hK K
        try simp only [Act.put, List.getElem_toArray, List.getElem_cons_succ, List.getElem_cons_zero, List.setIfInBounds_toArray, List.set_cons_zero, List.set_cons_succ]
        refine AnyBut.one (i := 7) (by kernel_rfl) rfl (fun K hK => ?_)
        go_simp
        refine hK.out _ _ (HSSC.out) ?_
        clear hK K
        try simp only [Act.put, List.getElem_toArray, List.getElem_cons_succ, List.getElem_cons_zero, List.setIfInBounds_toArray, List.set_cons_zero, List.set_cons_succ]
        refine AnyBut.takeS (i := 12) (v := ?v11) rfl (by kernel_rfl) (Nat.le_of_eq (by kernel_rfl)) (by kernel_rfl) (by kernel_rfl) (fun _ _ _ h => h) (HSSC.out) (Or.inl ⟨by kernel_rfl, ?hy11⟩) ?r11
        case hy11 =>
          intro w hSw
          try dsimp only at hSw
          go_simp
          first | (obtain ⟨y1, y2⟩ := hSw; go_simp) | skip
          try with_reducible rfl
        try simp only [Act.put, List.getElem_toArray, List.getElem_cons_succ, List.getElem_cons_zero, List.setIfInBounds_toArray, List.set_cons_zero, List.set_cons_succ]
        refine AnyBut.one (i := 13) (by kernel_rfl) rfl (fun K hK => ?_)
        go_simp
        go_wp2_with fail
        refine HP.out.mono ?_
        rintro e w3 hx
        obtain ⟨he, _⟩ := id hx
        have HR := Lib.hid (hx.to (HD.out.2.trans (HQC.out.1.mono (fun _ _ x => x.elim))) (fun k h0 h1 => .inr (by have e : some qc = some k := h1; injection e with e; have := HQC.out.2.2.size; have := HD.out.2.size; have := HQC.out.2.1; omega)) 0)
        subst he
        obtain ⟨_, _, _, _, _, k9, _⟩ := hx
        have HSSP : Hid ((fun w' => w'.cell? ⟨q, 1, none⟩ = some (.slice fa fn fc) ∧ w'.cell? ⟨q, 2, none⟩ = some (.int .i64 (fs : Int))) w3) := Lib.hid ⟨((HA.out.2.2.1.kept HKC.out (fun x => x)).kept k9 HQR.out).cell rfl, ((HA.out.2.2.1.kept HKC.out (fun x => x)).kept k9 HQR.out).cell rfl⟩
        clear k9
        go_wp2
        refine hK.out _ _ (HSSP.out) ?_
        clear hK K
        try simp only [Act.put, List.getElem_toArray, List.getElem_cons_succ, List.getElem_cons_zero, List.setIfInBounds_toArray, List.set_cons_zero, List.set_cons_succ]
        refine AnyBut.done (by kernel_rfl) ?_
        go_wp2
        go_ret
        rw [HY.out, HE.out]
        exact HR.out
  · have q0 : (z != 0) = true := bneT hz
    have HY := Lib.hid (HX.out.1 hz)
    clear hz
    go_wp2
    go_ret
    rw [HY.out]
    exact RBegan.to ⟨rfl, HD.out.1, HD.out.2⟩

set_option maxRecDepth 100000 in
set_option maxHeartbeats 4000000 in
theorem refRename_any (rb : Nat) (ao : Option Addr) (cp : Nat) (L : List RF) (D : DA) (s c : ByteArray) (hc : c.size ≤ maxLen) (w : World) (h : RK w rb ao cp L D) :
    Calls Try.prog 37 #[.pointer (some ⟨rb, 0, none⟩), .string s, .string c] w (RTo w rb ao L (renameD D s c)) := by
  have HC := Lib.hid (refBegin_any rb ao cp L D w h)
  have HX := Lib.hid (And.intro (fun e : (beginD D).2 ≠ 0 => (show renameD D s c = beginD D from behindD_ne e)) (fun e : (beginD D).2 = 0 => (show renameD D s c = (fun D => if nameB c = false then (D, 3) else withF s (fun f D => ({ D with L := putS (delM D.L s) c f }, 0)) D) (beginD D).1 from behindD_eq e)))
  have HOK := Lib.hid (renameD_ok h.ok s c)
  obtain ⟨r, hr⟩ : ∃ r, r = beginD D := ⟨_, rfl⟩
  rw [← hr] at HC HX
  obtain ⟨D1, z⟩ := r
  have HN := Lib.hid (fun w => refName_any c w (by unfold maxLen at hc; omega))
  clear hr h hc
  go_enter Try.func37, Try.ntmps37
  go_wp2_with fail
  refine HC.out.mono ?_
  rintro e w1 ⟨rfl, h1, hk1⟩
  have HD := Lib.hid (And.intro h1 hk1)
  clear h1 hk1
  by_cases hz : z = 0
  · have q0 : (z != 0) = false := bneF hz
    have HY := Lib.hid (HX.out.2 hz)
    subst hz
    cases hnb : nameB c with
    | false =>
      have HE := Lib.hid (show (fun D => if nameB c = false then (D, 3) else withF s (fun f D => ({ D with L := putS (delM D.L s) c f }, 0)) D) D1 = (D1, 3) from by show (if nameB c = false then _ else _) = _; rw [if_pos hnb])
      rw [hnb] at HN
      clear hnb
      go_wp2_with fail
      refine (HN.out _).mono ?_
      rintro e w2 ⟨rfl, rfl⟩
      go_wp2
      go_ret
      rw [HY.out, HE.out]
      exact RBegan.to ⟨rfl, HD.out.1, HD.out.2⟩
    | true =>
      rw [hnb] at HN
      have HNB := Lib.hid hnb
      clear hnb
      have HFD := Lib.hid (refFind_any rb ao cp L D1 s w1 HD.out.1)
      have c0 := HD.out.1.c.1
      obtain ⟨n, hn⟩ : ∃ n, n = L.length := ⟨_, rfl⟩
      rw [← hn] at c0
      have HNL := Lib.hid (show n = L.length ∧ n ≤ 4096 from ⟨hn, by have := HD.out.1.ok.count; have := HD.out.1.len; omega⟩)
      clear hn
      go_wp2_with fail
      refine (HN.out _).mono ?_
      rintro e w2 ⟨rfl, rfl⟩
      go_wp2_with fail
      refine HFD.out.mono ?_
      rintro e w2 ⟨z, rfl, hzz, rfl⟩
      rcases hzz.get HD.out.1 with ⟨rfl, hg⟩ | ⟨i, f, rfl, hf, hnm, hg⟩
      · have HE := Lib.hid (show (fun D => if nameB c = false then (D, 3) else withF s (fun f D => ({ D with L := putS (delM D.L s) c f }, 0)) D) D1 = (D1, 7) from by
          show (if nameB c = false then _ else _) = _
          rw [if_neg (by rw [HNB.out]; decide)]
          unfold withF
          rw [hg])
        clear hg hzz
        go_wp2
        go_ret
        rw [HY.out, HE.out]
        exact RBegan.to ⟨rfl, HD.out.1, HD.out.2⟩
      · obtain ⟨gg, oo, hga, hgc⟩ := HD.out.1.row (by have := (List.getElem?_eq_some_iff.1 hf).1; omega)
        subst hga
        have hil : i < n := by rw [HNL.out.1]; exact (List.getElem?_eq_some_iff.1 hf).1
        have hin : (i : Int) < (n : Int) := by omega
        have hi0 : (0 : Int) ≤ (i : Int) := by omega
        have hin' : ¬ (i : Int) < 0 := by omega
        have g0 := hgc i f hf 0 (.string f.nm) rfl
        have g1 := hgc i f hf 1 (.slice f.a f.b.length f.c) rfl
        have g2 := hgc i f hf 2 (.int .i64 (f.s : Int)) rfl
        rw [Nat.add_zero] at g0
        have hfm := List.mem_of_getElem? hf
        have hdt := HD.out.1.data f hfm
        have hsm : f.b.length ≤ 4194304 := by
          have h3 := usedL_del HD.out.1.ok.asc.pair s
          rw [hg] at h3
          simp only [szM] at h3
          have := HD.out.1.ok.used
          have := HD.out.1.ok.capR
          omega
        obtain ⟨fnm, fa, fc, fb, fs⟩ := f
        simp only at hnm hg hsm g0 g1 g2
        unfold RF.v at hdt
        simp only at hdt
        obtain ⟨fn, hfn⟩ : ∃ fn, fn = fb.length := ⟨_, rfl⟩
        rw [← hfn] at hdt g1 hsm
        have HFN := Lib.hid (And.intro hfn (And.intro hfm hnm))
        obtain ⟨q, hq⟩ : ∃ q, q = w1.heap.size := ⟨_, rfl⟩
        obtain ⟨wa, hwa⟩ : ∃ wa, wa = w1.alloc (.cells #[.string fnm, .slice fa fn fc, .int .i64 (fs : Int)] 68) := ⟨_, rfl⟩
        have ka : Kept (fun _ => False) w1 wa := by rw [hwa]; exact (Kept.refl _ _).alloc _
        have BA : BoxAt wa q 68 #[.string fnm, .slice fa fn fc, .int .i64 (fs : Int)] := by rw [hwa, hq]; exact BoxAt.new w1 _ _
        have HA := Lib.hid (And.intro (HD.out.1.kept ka (fun _ _ x => x)) (And.intro ka (And.intro BA (And.intro (hdt.1.kept ka (fun _ _ x => x)) hdt.2))))
        have HW := Lib.hid (And.intro hwa hq)
        have HG := Lib.hid hg
        have qA0 : wa.cell? ⟨q, 0, none⟩ = some (.string fnm) := BA.cell rfl
        have qA1 : wa.cell? ⟨q, 1, none⟩ = some (.slice fa fn fc) := BA.cell rfl
        have qA2 : wa.cell? ⟨q, 2, none⟩ = some (.int .i64 (fs : Int)) := BA.cell rfl
        clear hf hgc hfm hdt hnm hg hfn hq hwa ka BA hzz hil

        have HE := Lib.hid (show (fun D => if nameB c = false then (D, 3) else withF s (fun f D => ({ D with L := putS (delM D.L s) c f }, 0)) D) D1 = ({ D1 with L := putS (delM D1.L s) c ⟨fb, fs⟩ }, 0) from by
          show (if nameB c = false then _ else _) = _
          rw [if_neg (by rw [HNB.out]; decide)]
          unfold withF
          rw [HG.out])
        have HWO := Lib.hid (refWithout_any rb (some ⟨gg, oo, none⟩) cp L D1 s wa HA.out.1)
        go_upto_region 10 with fail
        rw [← HW.out.1, ← HW.out.2]
        go_wp2_with fail
        refine HWO.out.mono ?_
        rintro e w2 ⟨v, rfl, hm⟩
        obtain ⟨xa, xc, rfl⟩ := hm.slice
        have h2 := HA.out.1.kept hm.kept (fun _ _ x => x)
        have c20 := h2.c.1
        have f20 := h2.box.fz 0
        obtain ⟨w3, hw3⟩ : ∃ w3, w3 = w2.setCell ⟨rb, 0, none⟩ (.slice xa (noN L s).length xc) := ⟨_, rfl⟩
        have hset := without_set HA.out.1 hm (removeF_ok HA.out.1.ok s)
        rw [← hw3] at hset
        obtain ⟨ao3, cp3, L3, _, r3, k3, f3⟩ := hset
        have B3 := HA.out.2.2.1.kept k3 (fun e => by have := HD.out.1.box.lt; have := HW.out.2; omega)
        have q31 : w3.cell? ⟨q, 1, none⟩ = some (.slice fa fn fc) := B3.cell rfl
        have q32 : w3.cell? ⟨q, 2, none⟩ = some (.int .i64 (fs : Int)) := B3.cell rfl
        have hdt3 : SlAt w3 (.slice fa fn fc) (byV fb) := HA.out.2.2.2.1.keptN k3 (fun hx j e x => by
          have x' : j = rb := x
          have e' : (⟨fnm, fa, fc, fb, fs⟩ : RF).v.ownBlock = some j := by unfold RF.v; cases fa <;> exact e
          exact HD.out.1.dataNe HFN.out.2.1 (byV_ne hx) e' x')
        have HP := Lib.hid (refPut_any rb ao3 cp3 L3 { D1 with L := delM D1.L s } c fa fc fn fb fs HFN.out.1.symm w3 r3 hdt3 HA.out.2.2.2.2 (by have := HOK.out; rw [HY.out, HE.out] at this; exact this))
        have HK3 := Lib.hid (And.intro ((HD.out.2.trans (HA.out.2.1.mono (fun _ _ x => x.elim))).trans k3) (And.intro f3 HA.out.2.1))
        have HW3 := Lib.hid hw3
        clear hm h2 hw3 r3 k3 f3 B3 hdt3
        go_upto_region 11 with fail
        rw [← HW3.out]
        go_wp2_with fail
        refine HP.out.mono ?_
        rintro e w4 hx
        obtain ⟨he, a4, cp4, L4, r4, k4, f4⟩ := hx
        have HR := Lib.hid (show RTo w rb (some ⟨gg, oo, none⟩) L ({ D1 with L := putS (delM D1.L s) c ⟨fb, fs⟩ }, 0) (.returned (.int .i64 0)) w4 from ⟨a4, cp4, L4, rfl, r4, HK3.out.1.trans k4, fun k e => by
          rcases f4 k e with x | ⟨x, y⟩ | x
          · rcases HK3.out.2.1 k x with z | z
            · exact .inl z
            · exact .inr (Nat.le_trans (HD.out.2.trans (HA.out.2.1.mono (fun _ _ x => x.elim))).size z)
          · exact .inl (RK.footData (f := ⟨fnm, fa, fc, fb, fs⟩) HFN.out.2.1 x y)
          · exact .inr (Nat.le_trans HK3.out.1.size x)⟩)
        subst he
        clear r4 k4 f4
        go_wp2
        go_ret
        rw [HY.out, HE.out]
        exact HR.out
  · have q0 : (z != 0) = true := bneT hz
    have HY := Lib.hid (HX.out.1 hz)
    clear hz
    go_wp2
    go_ret
    rw [HY.out]
    exact RBegan.to ⟨rfl, HD.out.1, HD.out.2⟩
end Go.Proofs.Ytdhfalcjohfdkaa
