/- Texts put together: Z18. -/
import Derived.Test.YtjpnfadmblmjbaaDoorZz8
/- package histbits: next (written by tools/gen_XZ18.py). -/
namespace Go.Proofs.YtjpnfadmblmjbaaDoor
open Go.RowKit
attribute [local go_sem ↓] Go.wp_at_zero Go.wp_at_succ

theorem numB_one (l : List Bool) (h : 1 ≤ l.length) : numB (l.take 1) = if l.getD 0 false = true then 1 else 0 := by
  match l, h with
  | a :: l, _ => cases a <;> rfl
theorem gotH_A {n : Nat} {g : HistV} {l : List Bool} (h : l.length < 1) : gotH n g l = (zeroH, 0, 2) := by unfold gotH; rw [if_pos h]
theorem gotH_B {n : Nat} {g : HistV} {l : List Bool} (h : 1 ≤ l.length) (hb : l.getD 0 false = true) {R0 : HistV × Nat × Nat} (hR : R0 = if n = 0 then (zeroH, 0, 3) else gotC (readD (cntL g)) (shOf g) (l.drop 1)) :
    (gotH n g l).1 = R0.1 ∧ (gotH n g l).2.2 = R0.2.2 ∧ (R0.2.2 = 0 → (gotH n g l).2.1 = 1 + R0.2.1) := by
  unfold gotH
  rw [if_neg (by omega), if_pos hb]
  by_cases h0 : n = 0
  · rw [if_pos h0] at hR ⊢
    subst hR
    exact ⟨rfl, rfl, fun e => absurd e (by decide)⟩
  · rw [if_neg h0] at hR ⊢
    subst hR
    exact ⟨rfl, rfl, fun _ => rfl⟩
theorem gotH_C {n : Nat} {g : HistV} {l : List Bool} (h : 1 ≤ l.length) (hb : ¬ l.getD 0 false = true) (he : (gotShape (l.drop 1)).2.2 ≠ 0) : gotH n g l = (zeroH, 0, (gotShape (l.drop 1)).2.2) := by
  unfold gotH
  rw [if_neg (by omega), if_neg hb]
  simp only
  rw [if_pos he]
theorem gotH_D {n : Nat} {g : HistV} {l : List Bool} (h : 1 ≤ l.length) (hb : ¬ l.getD 0 false = true) (he : (gotShape (l.drop 1)).2.2 = 0) {r : HistV × Nat × Nat} (hr : r = gotC readF (gotShape (l.drop 1)).1 (l.drop (1 + (gotShape (l.drop 1)).2.1))) :
    gotH n g l = if r.2.2 ≠ 0 then (r.1, 0, r.2.2) else if 0 < n ∧ (gotShape (l.drop 1)).1 = shOf g then (r.1, 0, 3) else (r.1, 1 + (gotShape (l.drop 1)).2.1 + r.2.1, 0) := by
  unfold gotH
  rw [if_neg (by omega), if_neg hb]
  simp only
  rw [if_neg (fun e => e he), ← hr]
theorem gotShape_fit (l : List Bool) : ((gotShape l).1.pn ≤ 160 ∧ (gotShape l).1.nn ≤ 160) ∧ I64 (gotShape l).1.sc ∧ I64 (gotShape l).1.po ∧ I64 (gotShape l).1.no := by
  have z : I64 0 := ⟨by decide, by decide⟩
  rcases gotShape_cases l with ⟨_, e⟩ | ⟨_, n, _, hn, a, ha, ⟨_, e⟩ | ⟨_, b, hb, e⟩⟩
  · rw [e]; exact ⟨⟨Nat.zero_le _, Nat.zero_le _⟩, z, z, z⟩
  · rw [e]; exact ⟨⟨Nat.zero_le _, Nat.zero_le _⟩, z, z, z⟩
  · rw [e]
    have h1 := gotSide_le (l.drop 5)
    have h2 := gotSide_le (l.drop (5 + a.2.2.1))
    rw [← ha] at h1
    rw [← hb] at h2
    exact ⟨⟨h1.2.1, h2.2.1⟩, ⟨by dsimp only; omega, by dsimp only; omega⟩, h1.2.2, h2.2.2⟩
theorem ifs5n {α : Type} {a b : α} {A B C D E : Prop} [Decidable A] [Decidable B] [Decidable C] [Decidable D] [Decidable E] (h1 : A) (h2 : B) (h3 : C) (h4 : D) (h5 : E) :
    (if A then if B then if C then if D then if E then a else b else b else b else b else b) = a := by
  rw [if_pos h1, if_pos h2, if_pos h3, if_pos h4, if_pos h5]

set_option maxHeartbeats 8000000 in
set_option maxRecDepth 100000 in
theorem hnext_any (W0 : World) (B p r n : Nat) (v gp gn : Value) (g : HistV) (bs : List Bool) (t : Nat) (w : World) (HR : BrAt w B p v bs t) (hB : B ≤ w.heap.size) (hB0 : 0 < B) (hl : bs.length ≤ 100000000) (HT : ClassTab w)
    (hrow : HRow w r n g gp gn) (ho1 : OwnU W0 w gp g.pl) (ho2 : OwnU W0 w gn g.nl) (hgo : g.ok) (hgpl : g.pl.length ≤ 160) (hgnl : g.nl.length ≤ 160) (hrp : r ≠ p) :
    Calls Tryd.prog 75 #[.pointer (some ⟨r, 0, none⟩), .pointer (some ⟨p, 0, none⟩)] w (GotTo w B p v bs t (gotH n g (bs.drop t))) := by
  obtain ⟨a1, c1, rfl⟩ := ho1.slice
  obtain ⟨a2, c2, rfl⟩ := ho2.slice
  have hlt := HR.lt
  have hft := HR.taken
  have hbase := HR.base
  have hdl : (bs.drop t).length = bs.length - t := List.length_drop
  obtain ⟨w0, hw0⟩ : ∃ w0, w0 = (w.alloc (.cells #[.pointer (some ⟨p, 0, none⟩)] 38)).alloc (.cells #[.int .i64 0, .int .u64 0, .int .i64 0, .slice none 0 0, .int .i64 0, .slice none 0 0] 62) := ⟨_, rfl⟩
  have k0 : Kept (fun _ => False) w w0 := by rw [hw0]; exact ((Kept.refl _ _).alloc _).alloc _
  have HP0 := Lib.hid (show PtrBox w0 w.heap.size p by rw [hw0]; exact ((Kept.refl (fun _ => False) _).alloc _).same (heap_alloc_new w _) (fun x => x))
  have HH0 := Lib.hid (show HistBox w0 (w.heap.size + 1) zeroH (.slice none 0 0) (.slice none 0 0) by unfold HistBox; dsimp only [zeroH]; rw [hw0]; have := heap_alloc_new (w.alloc (.cells #[.pointer (some ⟨p, 0, none⟩)] 38)) (.cells #[.int .i64 0, .int .u64 0, .int .i64 0, .slice none 0 0, .int .i64 0, .slice none 0 0] 62); simpa using this)
  have HK0 := Lib.hid k0
  have HW0 := Lib.hid hw0
  have hsz0 : w0.heap.size = w.heap.size + 2 := by rw [hw0]; simp
  have HB0 := HR.keptF k0
  have HX0 := Lib.hid (hrow.same k0 (fun x => x))
  have HO0 := Lib.hid (And.intro (ho1.kept k0 (fun _ _ x => x)) (ho2.kept k0 (fun _ _ x => x)))
  have HT0 := Lib.hid (HT.kept k0)
  have hov : ∀ k, v.ownBlock = some k → k < w.heap.size := fun k e => (ownsRow_lt HR.owns e).1
  obtain ⟨rb, hrb⟩ : ∃ q, q = w.heap.size := ⟨_, rfl⟩
  obtain ⟨qr, hqr⟩ : ∃ q, q = rb + 1 := ⟨_, rfl⟩
  rw [← hrb] at HP0 HH0
  rw [← hqr] at HH0
  have HQ := Lib.hid (And.intro hrb hqr)
  have HSZ := Lib.hid (And.intro hsz0 (And.intro hlt (And.intro hB (And.intro hB0 (And.intro hrp hbase)))))
  have HOV := Lib.hid hov
  have HGO := Lib.hid hgo
  have HGL := Lib.hid (And.intro hgpl hgnl)
  have HLL := Lib.hid hl
  have HRB := Lib.hid HB0
  rcases Nat.lt_or_ge (bs.drop t).length 1 with hA | hA
  · have hR := gotH_A (n := n) (g := g) hA
    have HRR := Lib.hid hR
    have HNE := Lib.hid (show (2 : Nat) ≠ 0 by decide)
    have HT1 := Lib.hid (btake_no B p v bs t 1 _ HB0 (by omega) (.inr (.inr (by omega))))
    clear HR HT hrow ho1 ho2 hgo hw0 k0 hlt hft hbase hdl hsz0 HB0 hov hrb hqr hgpl hgnl hl hB hB0 hrp hA hR
    go_enter Tryd.func75, Tryd.ntmps75
    go_upto_region 1 with fail
    rw [← HW0.out, ← HQ.out.1]
    try rw [← HQ.out.2]
    have c0 := HP0.out.c
    go_wp2_with fail
    refine HT1.out.mono ?_
    rintro e w1 ⟨rfl, hb, hk⟩
    have HH1 := Lib.hid (HH0.out.same hk (fun e => by have := HSZ.out; have := HQ.out; omega))
    have HK1 := Lib.hid ((show Kept (fun k => k = p) w w0 from keptTo HK0.out).trans hk)
    clear hb hk
    obtain ⟨x0, x1, x2, x3, x4, x5⟩ := HH1.out.c
    obtain ⟨f0, f1, f2, f3, f4, f5⟩ := HH1.out.f
    dsimp only [zeroH] at x0 x1 x2 x3 x4 x5
    go_wp2
    try simp only [Exit.inBlock, Exit.then]
    refine hist_end (h := zeroH) (pv := .slice none 0 0) (nv := .slice none 0 0) Tryd.results75 rfl rfl rfl (HH1.out.set zeroH (.slice none 0 0) (.slice none 0 0)) ?_
    rw [HRR.out]
    exact ⟨_, _, rfl, OwnU.nil _ _, OwnU.nil _ _, (HK1.out).new (set6_kept _ _ _ _ _ _ _ _) (by have := HQ.out; omega), fun e => absurd e HNE.out⟩
  · have hnb := numB_one (bs.drop t) hA
    have HT1 := btake_yes B p v bs t 1 w0 HB0 (by omega) (by omega) (by omega)
    rw [hnb] at HT1
    by_cases hb : (bs.drop t).getD 0 false = true
    · rw [if_pos hb] at HT1
      have HT1 := Lib.hid (show Calls Tryd.prog 57 #[.pointer (some ⟨p, 0, none⟩), .int .i64 1] w0 (Taken w0 B p v bs (t + 1) 1 true) from HT1)
      obtain ⟨R0, hR0⟩ : ∃ R, R = if n = 0 then (zeroH, 0, 3) else gotC (readD (cntL g)) (shOf g) (bs.drop (t + 1)) := ⟨_, rfl⟩
      have hR := gotH_B (n := n) (g := g) hA hb (R0 := R0) (by rw [hR0, List.drop_drop])
      have HGA := Lib.hid fun w' (b : BrAt w' B p v bs (t + 1)) (hs : B ≤ w'.heap.size) (T : ClassTab w') (x : HRow w' r n g (.slice a1 g.pl.length c1) (.slice a2 g.nl.length c2)) (k1 : HistAt w' g (.slice a1 g.pl.length c1) (.slice a2 g.nl.length c2)) => getAlike_any B p r n v _ _ g bs (t + 1) w' b hs hB0 hl T x k1 hgo hgpl hgnl
      rw [← hR0] at HGA
      obtain ⟨R, hRR⟩ : ∃ R, R = gotH n g (bs.drop t) := ⟨_, rfl⟩
      rw [← hRR] at hR ⊢
      have HR := Lib.hid hR
      clear HT hrow ho1 ho2 hgo hw0 k0 hlt hft hbase hdl hsz0 HB0 hov hrb hqr hgpl hgnl hl hB hB0 hrp hA hb hnb hR0 hR hRR
      go_enter Tryd.func75, Tryd.ntmps75
      go_upto_region 1 with fail
      rw [← HW0.out, ← HQ.out.1]
      try rw [← HQ.out.2]
      have c0 := HP0.out.c
      go_wp2_with fail
      refine HT1.out.mono ?_
      rintro e w1 ⟨rfl, hb, hk⟩
      have HB1 := Lib.hid hb
      have HH1 := Lib.hid (HH0.out.same hk (fun e => by have := HSZ.out; have := HQ.out; omega))
      have HK1 := Lib.hid ((show Kept (fun k => k = p) w w0 from keptTo HK0.out).trans hk)
      have HX1 := Lib.hid (HX0.out.same hk (fun e => HSZ.out.2.2.2.2.1 e))
      have HO1 := Lib.hid (And.intro (HO0.out.1.kept hk (fun j hj e => own_box HO0.out.1 HRB.out.box (by decide) (by rw [hj, e]))) (HO0.out.2.kept hk (fun j hj e => own_box HO0.out.2 HRB.out.box (by decide) (by rw [hj, e]))))
      have HTT1 := Lib.hid (HT0.out.keptS hk (by have := HSZ.out; omega))
      have HP1 := Lib.hid (hk.same HP0.out (fun e => by have := HSZ.out; have := HQ.out; omega))
      have HS1 := Lib.hid hk.size
      clear hb hk c0
      have c0 := PtrBox.c HP1.out
      go_wp2_with fail
      refine (HGA.out w1 HB1.out (by have := HSZ.out; have := HS1.out; omega) HTT1.out HX1.out ⟨HO1.out.1.at_, HO1.out.2.at_⟩).mono ?_
      rintro e w2 ⟨pv, nv, rfl, o1, o2, k2, hin⟩
      obtain ⟨b1, d1, rfl⟩ := o1.slice
      obtain ⟨b2, d2, rfl⟩ := o2.slice
      obtain ⟨⟨hsc, hze, hpo, hpl, hno, hnl⟩, NN, EE⟩ := R0
      have HO := Lib.hid (And.intro o1 (And.intro o2 (And.intro k2 hin)))
      have HH2 := Lib.hid (HistBox.same HH1.out k2 (fun e => by have := HSZ.out; have := HQ.out; omega))
      have HN1 := Lib.hid (show w.heap.size ≤ w1.heap.size by have := HSZ.out; have := HS1.out; omega)
      clear o1 o2 k2 hin
      unfold histV
      dsimp only
      obtain ⟨x0, x1, x2, x3, x4, x5⟩ := HH2.out.c
      obtain ⟨f0, f1, f2, f3, f4, f5⟩ := HH2.out.f
      dsimp only [zeroH] at x0 x1 x2 x3 x4 x5
      go_wp2
      try simp only [Exit.inBlock, Exit.then]
      refine hist_end (h := ⟨hsc, hze, hpo, hpl, hno, hnl⟩) (pv := .slice b1 hpl.length d1) (nv := .slice b2 hnl.length d2) Tryd.results75 rfl rfl rfl (HH2.out.set ⟨hsc, hze, hpo, hpl, hno, hnl⟩ (.slice b1 hpl.length d1) (.slice b2 hnl.length d2)) ?_
      have hk7 := set6_kept w2 qr (.int .i64 hsc) (.int .u64 (hze : Int)) (.int .i64 hpo) (.slice b1 hpl.length d1) (.int .i64 hno) (.slice b2 hnl.length d2)
      obtain ⟨o1, o2, k2, hin⟩ := HO.out
      obtain ⟨r1, r2, r3⟩ := HR.out
      unfold GotTo
      rw [r1, r2]
      refine ⟨_, _, rfl, (o1.kept hk7 (fun j hj e => own_box o1 HH2.out (by decide) (by rw [hj, e]))).down HN1.out, (o2.kept hk7 (fun j hj e => own_box o2 HH2.out (by decide) (by rw [hj, e]))).down HN1.out, (HK1.out.trans k2).new hk7 (by have := HQ.out; omega), fun e => ?_⟩
      rw [r3 e, ← Nat.add_assoc]
      exact (hin e).kept hk7 (fun e => by have := HSZ.out; have := HQ.out; omega) (fun k e1 e2 => by have h1 := HOV.out k e1; have := HQ.out; omega)
    · rw [if_neg hb] at HT1
      have HT1 := Lib.hid (show Calls Tryd.prog 57 #[.pointer (some ⟨p, 0, none⟩), .int .i64 1] w0 (Taken w0 B p v bs (t + 1) 0 true) from HT1)
      obtain ⟨SH, hSH⟩ : ∃ s, s = gotShape (bs.drop (t + 1)) := ⟨_, rfl⟩
      have hd1 : (bs.drop t).drop 1 = bs.drop (t + 1) := List.drop_drop
      have HGS := Lib.hid fun w' (b : BrAt w' B p v bs (t + 1)) (hs : B ≤ w'.heap.size) (T : ClassTab w') => getShape_any B p v bs (t + 1) w' b hs hB0 hl T
      rw [← hSH] at HGS
      have hfit := gotShape_fit (bs.drop (t + 1))
      rw [← hSH] at hfit
      by_cases he1 : SH.2.2 = 0
      · have hd2 : (bs.drop t).drop (1 + SH.2.1) = bs.drop (t + 1 + SH.2.1) := by rw [List.drop_drop, Nat.add_assoc]
        obtain ⟨R, hRc⟩ : ∃ R, R = gotC readF SH.1 (bs.drop (t + 1 + SH.2.1)) := ⟨_, rfl⟩
        have hR := gotH_D (n := n) (g := g) hA hb (by rw [hd1, ← hSH]; exact he1) (r := R) (by rw [hd1, ← hSH, hd2]; exact hRc)
        rw [hd1, ← hSH] at hR
        have HGC := Lib.hid fun (W : World) (rb : Nat) (h1 : p < W.heap.size) (h0 : NextI W.heap.size B p rb v bs 0 (t + 1 + SH.2.1) W) => getCounts_any W bs (t + 1 + SH.2.1) SH.1 readF 93 #[.pointer (some ⟨rb, 0, none⟩)] (fun k => k = p) (NextI W.heap.size B p rb v bs) (next_getter hl h1) h0 hfit.2.1 hfit.2.2.1 hfit.2.2.2 hfit.1.1 hfit.1.2
        rw [← hRc] at HGC
        have HSG := Lib.hid fun w' p1 n1 (k : HistAt w' g p1 n1) => shapeOf_any g p1 n1 w' k
        obtain ⟨⟨ssc, spo, spn, sno, snn⟩, N1, E1⟩ := SH
        dsimp only [ShV.val] at HGS HGC hR he1
        subst he1
        obtain ⟨gsc, gze, gpo, gpl, gno, gnl⟩ := g
        unfold histV shapeV at HSG
        dsimp only [shOf] at HSG HX0 HO0 hR
        obtain ⟨⟨hsc, hze, hpo, hpl, hno, hnl⟩, NN, EE⟩ := R
        dsimp only at hR
        have HR := Lib.hid hR
        clear HT hrow ho1 ho2 hgo hw0 k0 hlt hft hbase hdl hsz0 HB0 hov hrb hqr hgpl hgnl hl hB hB0 hrp hA hb hnb hSH hd1 hd2 hfit hR hRc HGO HGL
        by_cases hE : EE = 0
        · by_cases hn0 : n = 0
          · subst hE
            have z1 : decide (0 < n) = false := decide_eq_false (by omega)
            have z2 : decide ((0 : Int) < (n : Int)) = false := decide_eq_false (by omega)
            have z0 : ¬ (0 : Int) < (n : Int) := by omega
            have HNN := Lib.hid hn0
            clear hn0
            go_enter Tryd.func75, Tryd.ntmps75
            go_upto_region 1 with fail
            rw [← HW0.out, ← HQ.out.1]
            try rw [← HQ.out.2]
            have c0 := HP0.out.c
            go_wp2_with fail
            refine HT1.out.mono ?_
            rintro e w1 ⟨rfl, hb, hk⟩
            have HB1 := Lib.hid hb
            have HH1 := Lib.hid (HH0.out.same hk (fun e => by have := HSZ.out; have := HQ.out; omega))
            have HK1 := Lib.hid ((show Kept (fun k => k = p) w w0 from keptTo HK0.out).trans hk)
            have HX1 := Lib.hid (HX0.out.same hk (fun e => HSZ.out.2.2.2.2.1 e))
            have HO1 := Lib.hid (And.intro (HO0.out.1.kept hk (fun j hj e => own_box HO0.out.1 HRB.out.box (by decide) (by rw [hj, e]))) (HO0.out.2.kept hk (fun j hj e => own_box HO0.out.2 HRB.out.box (by decide) (by rw [hj, e]))))
            have HTT1 := Lib.hid (HT0.out.keptS hk (by have := HSZ.out; omega))
            have HP1 := Lib.hid (hk.same HP0.out (fun e => by have := HSZ.out; have := HQ.out; omega))
            have HS1 := Lib.hid hk.size
            clear hb hk c0
            have c0 := PtrBox.c HP1.out
            go_wp2_with fail
            refine (HGS.out w1 HB1.out (by have := HSZ.out; have := HS1.out; omega) HTT1.out).mono ?_
            rintro e w2 ⟨rfl, hb, hk⟩
            obtain ⟨w3, hw3⟩ : ∃ w', w' = w2.alloc (.cells #[.int .i64 ssc, .int .i64 spo, .int .i64 (spn : Int), .int .i64 sno, .int .i64 (snn : Int)] 101) := ⟨_, rfl⟩
            have k3 : Kept (fun _ => False) w2 w3 := by rw [hw3]; exact (Kept.refl _ _).alloc _
            have HW3 := Lib.hid hw3
            have hk3 : Kept (fun k => k = p) w1 w3 := hk.step k3 (fun _ _ e => e.elim)
            obtain ⟨qs, hqs⟩ : ∃ q, q = w2.heap.size := ⟨_, rfl⟩
            have HS3 := Lib.hid (show ShBox w3 qs ⟨ssc, spo, spn, sno, snn⟩ by rw [hw3, hqs]; exact heap_alloc_new w2 _)
            have HB3 := Lib.hid (hb.keptF k3)
            have HH3 := Lib.hid (HistBox.same HH1.out hk3 (fun e => by have := HSZ.out; have := HQ.out; omega))
            have HK3 := Lib.hid (HK1.out.trans hk3)
            have HX3 := Lib.hid (HRow.same HX1.out hk3 (fun e => HSZ.out.2.2.2.2.1 e))
            have HO3 := Lib.hid (And.intro (HO1.out.1.kept hk3 (fun j hj e => own_box HO1.out.1 HB1.out.box (by decide) (by rw [hj, e]))) (HO1.out.2.kept hk3 (fun j hj e => own_box HO1.out.2 HB1.out.box (by decide) (by rw [hj, e]))))
            have HTT3 := Lib.hid (HTT1.out.keptS hk3 (by have := HSZ.out; omega))
            have HP3 := Lib.hid (hk3.same HP1.out (fun e => by have := HSZ.out; have := HQ.out; omega))
            have HS3s := Lib.hid (show w1.heap.size ≤ w3.heap.size from hk3.size)
            have HQS := Lib.hid (And.intro hqs hk.size)
            clear hb hk hw3 k3 hk3 c0
            go_upto_region 7 with fail
            rw [← HW3.out, ← hqs]
            clear hqs
            have c0 := PtrBox.c HP3.out
            obtain ⟨s0, s1, s2, s3, s4⟩ := ShBox.c (s := ⟨ssc, spo, spn, sno, snn⟩) HS3.out
            dsimp only at s0 s1 s2 s3 s4
            have hmf : ∀ (fn : Fn) (first cap : Array Value) (w : World), (Instr.makeFunc fn first cap).run Tryd.prog w = .ok (.func fn first cap) w := fun _ _ _ _ => rfl
            go_wp2_with fail
            refine (HGC.out w3 rb (by have := HSZ.out; have := HS1.out; have := HS3s.out; omega) ⟨HB3.out, by have := HSZ.out; have := HS1.out; have := HS3s.out; omega, HTT3.out, HP3.out, by have := HSZ.out; have := HS1.out; have := HS3s.out; have := HQ.out; omega, fun k e => by have := HOV.out k e; have := HSZ.out; have := HS1.out; have := HS3s.out; omega, by have := HSZ.out; have := HS1.out; have := HS3s.out; omega⟩).mono ?_
            rintro e w4 ⟨pv, nv, rfl, o1, o2, k4, hin⟩
            obtain ⟨b1, d1, rfl⟩ := o1.slice
            obtain ⟨b2, d2, rfl⟩ := o2.slice
            unfold histV
            dsimp only at o1 o2 hin ⊢
            obtain ⟨w5, hw5⟩ : ∃ w', w' = w4.alloc (.cells #[.int .i64 hsc, .int .u64 (hze : Int), .int .i64 hpo, .slice b1 hpl.length d1, .int .i64 hno, .slice b2 hnl.length d2] 62) := ⟨_, rfl⟩
            have k5 : Kept (fun _ => False) w4 w5 := by rw [hw5]; exact (Kept.refl _ _).alloc _
            have HW5 := Lib.hid hw5
            obtain ⟨qh, hqh⟩ : ∃ q, q = w4.heap.size := ⟨_, rfl⟩
            have HQ5 := Lib.hid (show HistBox w5 qh ⟨hsc, hze, hpo, hpl, hno, hnl⟩ (.slice b1 hpl.length d1) (.slice b2 hnl.length d2) by rw [hw5, hqh]; exact heap_alloc_new w4 _)
            have hk5 : Kept (fun k => k = p) w3 w5 := k4.step k5 (fun _ _ e => e.elim)
            have HO5 := Lib.hid (And.intro (o1.kept k5 (fun _ _ x => x)) (o2.kept k5 (fun _ _ x => x)))
            have HIN := Lib.hid (fun e => (hin e).br.keptF k5 : _ → BrAt w5 B p v bs (t + 1 + N1 + NN))
            have HH5 := Lib.hid (HistBox.same HH3.out hk5 (fun e => by have := HSZ.out; have := HQ.out; omega))
            have HS5 := Lib.hid (ShBox.same HS3.out hk5 (fun e => by have := HSZ.out; have := HQ.out; have := HQS.out; have := HS1.out; omega))
            have HK5 := Lib.hid (HK3.out.trans hk5)
            have HX5 := Lib.hid (HRow.same HX3.out hk5 (fun e => HSZ.out.2.2.2.2.1 e))
            have HG5 := Lib.hid (show HistAt w5 ⟨gsc, gze, gpo, gpl, gno, gnl⟩ (.slice a1 gpl.length c1) (.slice a2 gnl.length c2) from ⟨(HO3.out.1.kept hk5 (fun j hj e => own_box HO3.out.1 HB3.out.box (by decide) (by rw [hj, e]))).at_, (HO3.out.2.kept hk5 (fun j hj e => own_box HO3.out.2 HB3.out.box (by decide) (by rw [hj, e]))).at_⟩)
            have HN5 := Lib.hid (show w.heap.size ≤ w3.heap.size ∧ qh ≠ qr by have := HSZ.out; have := HS1.out; have := HS3s.out; have := k4.size; have := HQ.out; omega)
            clear o1 o2 k4 hin hw5 k5 hk5 s0 s1 s2 s3 s4 c0
            go_upto_region 10 with fail
            rw [← HW5.out, ← hqh]
            clear hqh
            have hkd := (Kept.refl (fun _ => False) w5).drew
            have HSSa : Hid ((fun w' => w'.cell? ⟨qs, 0, none⟩ = some (.int .i64 ssc) ∧ w'.cell? ⟨qs, 1, none⟩ = some (.int .i64 spo) ∧ w'.cell? ⟨qs, 2, none⟩ = some (.int .i64 (spn : Int)) ∧ w'.cell? ⟨qs, 3, none⟩ = some (.int .i64 sno) ∧ w'.cell? ⟨qs, 4, none⟩ = some (.int .i64 (snn : Int)) ∧ w'.cell? ⟨r, 0, none⟩ = some (.int .i64 (n : Int)) ∧ w'.cell? ⟨r, 1, none⟩ = some (.int .i64 gsc) ∧ w'.cell? ⟨r, 2, none⟩ = some (.int .u64 (gze : Int)) ∧ w'.cell? ⟨r, 3, none⟩ = some (.int .i64 gpo) ∧ w'.cell? ⟨r, 4, none⟩ = some (.slice a1 gpl.length c1) ∧ w'.cell? ⟨r, 5, none⟩ = some (.int .i64 gno) ∧ w'.cell? ⟨r, 6, none⟩ = some (.slice a2 gnl.length c2)) w5.drew) := by
              obtain ⟨s0, s1, s2, s3, s4⟩ := ShBox.c (s := ⟨ssc, spo, spn, sno, snn⟩) (ShBox.same HS5.out hkd (fun x => x))
              obtain ⟨y0, y1, y2, y3, y4, y5, y6⟩ := HRow.c (h := ⟨gsc, gze, gpo, gpl, gno, gnl⟩) (HRow.same HX5.out hkd (fun x => x))
              exact Lib.hid ⟨s0, s1, s2, s3, s4, y0, y1, y2, y3, y4, y5, y6⟩
            have HKD := Lib.hid hkd
            clear hkd
            refine AnyBut.start (S := fun w' => w'.cell? ⟨qs, 0, none⟩ = some (.int .i64 ssc) ∧ w'.cell? ⟨qs, 1, none⟩ = some (.int .i64 spo) ∧ w'.cell? ⟨qs, 2, none⟩ = some (.int .i64 (spn : Int)) ∧ w'.cell? ⟨qs, 3, none⟩ = some (.int .i64 sno) ∧ w'.cell? ⟨qs, 4, none⟩ = some (.int .i64 (snn : Int)) ∧ w'.cell? ⟨r, 0, none⟩ = some (.int .i64 (n : Int)) ∧ w'.cell? ⟨r, 1, none⟩ = some (.int .i64 gsc) ∧ w'.cell? ⟨r, 2, none⟩ = some (.int .u64 (gze : Int)) ∧ w'.cell? ⟨r, 3, none⟩ = some (.int .i64 gpo) ∧ w'.cell? ⟨r, 4, none⟩ = some (.slice a1 gpl.length c1) ∧ w'.cell? ⟨r, 5, none⟩ = some (.int .i64 gno) ∧ w'.cell? ⟨r, 6, none⟩ = some (.slice a2 gnl.length c2)) (k := 18) (by kernel_rfl) ?_
            refine AnyBut.takeS (i := 0) (v := ?v1) rfl (by kernel_rfl) (Nat.le_of_eq (by kernel_rfl)) (by kernel_rfl) (by kernel_rfl) (fun _ _ _ h => h) (HSSa.out) (Or.inl ⟨by kernel_rfl, ?hy1⟩) ?r1
            case hy1 =>
              intro w hSw
              try dsimp only at hSw
              go_simp
              try with_reducible rfl
            try simp only [Act.put, List.getElem_toArray, List.getElem_cons_zero, List.setIfInBounds_toArray, List.set_cons_zero, List.set_cons_succ]
            refine AnyBut.takeS (i := 1) (v := ?v2) rfl (by kernel_rfl) (Nat.le_of_eq (by kernel_rfl)) (by kernel_rfl) (by kernel_rfl) (fun _ _ _ h => h) (HSSa.out) (Or.inl ⟨by kernel_rfl, ?hy2⟩) ?r2
            case hy2 =>
              intro w hSw
              try dsimp only at hSw
              go_simp
              try with_reducible rfl
            try simp only [Act.put, List.getElem_toArray, List.getElem_cons_succ, List.getElem_cons_zero, List.setIfInBounds_toArray, List.set_cons_zero, List.set_cons_succ]
            refine AnyBut.takeS (i := 2) (v := ?v3) rfl (by kernel_rfl) (Nat.le_of_eq (by kernel_rfl)) (by kernel_rfl) (by kernel_rfl) (fun _ _ _ h => h) (HSSa.out) (Or.inl ⟨by kernel_rfl, ?hy3⟩) ?r3
            case hy3 =>
              intro w hSw
              try dsimp only at hSw
              go_simp
              try with_reducible rfl
            try simp only [Act.put, List.getElem_toArray, List.getElem_cons_succ, List.getElem_cons_zero, List.setIfInBounds_toArray, List.set_cons_zero, List.set_cons_succ]
            refine AnyBut.takeS (i := 3) (v := ?v4) rfl (by kernel_rfl) (Nat.le_of_eq (by kernel_rfl)) (by kernel_rfl) (by kernel_rfl) (fun _ _ _ h => h) (HSSa.out) (Or.inl ⟨by kernel_rfl, ?hy4⟩) ?r4
            case hy4 =>
              intro w hSw
              try dsimp only at hSw
              go_simp
              try with_reducible rfl
            try simp only [Act.put, List.getElem_toArray, List.getElem_cons_succ, List.getElem_cons_zero, List.setIfInBounds_toArray, List.set_cons_zero, List.set_cons_succ]
            refine AnyBut.takeS (i := 4) (v := ?v5) rfl (by kernel_rfl) (Nat.le_of_eq (by kernel_rfl)) (by kernel_rfl) (by kernel_rfl) (fun _ _ _ h => h) (HSSa.out) (Or.inl ⟨by kernel_rfl, ?hy5⟩) ?r5
            case hy5 =>
              intro w hSw
              try dsimp only at hSw
              go_simp
              try with_reducible rfl
            try simp only [Act.put, List.getElem_toArray, List.getElem_cons_succ, List.getElem_cons_zero, List.setIfInBounds_toArray, List.set_cons_zero, List.set_cons_succ]
            refine AnyBut.takeS (i := 5) (v := ?v6) rfl (by kernel_rfl) (Nat.le_of_eq (by kernel_rfl)) (by kernel_rfl) (by kernel_rfl) (fun _ _ _ h => h) (HSSa.out) (Or.inl ⟨by kernel_rfl, ?hy6⟩) ?r6
            case hy6 =>
              intro w hSw
              try dsimp only at hSw
              go_simp
              try with_reducible rfl
            try simp only [Act.put, List.getElem_toArray, List.getElem_cons_succ, List.getElem_cons_zero, List.setIfInBounds_toArray, List.set_cons_zero, List.set_cons_succ]
            refine AnyBut.takeS (i := 6) (v := ?v7) rfl (by kernel_rfl) (Nat.le_of_eq (by kernel_rfl)) (by kernel_rfl) (by kernel_rfl) (fun _ _ _ h => h) (HSSa.out) (Or.inl ⟨by kernel_rfl, ?hy7⟩) ?r7
            case hy7 =>
              intro w hSw
              try dsimp only at hSw
              go_simp
              try with_reducible rfl
            try simp only [Act.put, List.getElem_toArray, List.getElem_cons_succ, List.getElem_cons_zero, List.setIfInBounds_toArray, List.set_cons_zero, List.set_cons_succ]
            refine AnyBut.takeS (i := 7) (v := ?v8) rfl (by kernel_rfl) (Nat.le_of_eq (by kernel_rfl)) (by kernel_rfl) (by kernel_rfl) (fun _ _ _ h => h) (HSSa.out) (Or.inl ⟨by kernel_rfl, ?hy8⟩) ?r8
            case hy8 =>
              intro w hSw
              try dsimp only at hSw
              go_simp
              try with_reducible rfl
            try simp only [Act.put, List.getElem_toArray, List.getElem_cons_succ, List.getElem_cons_zero, List.setIfInBounds_toArray, List.set_cons_zero, List.set_cons_succ]
            refine AnyBut.takeS (i := 8) (v := ?v9) rfl (by kernel_rfl) (Nat.le_of_eq (by kernel_rfl)) (by kernel_rfl) (by kernel_rfl) (fun _ _ _ h => h) (HSSa.out) (Or.inl ⟨by kernel_rfl, ?hy9⟩) ?r9
            case hy9 =>
              intro w hSw
              try dsimp only at hSw
              go_simp
              try with_reducible rfl
            try simp only [Act.put, List.getElem_toArray, List.getElem_cons_succ, List.getElem_cons_zero, List.setIfInBounds_toArray, List.set_cons_zero, List.set_cons_succ]
            refine AnyBut.takeS (i := 9) (v := ?v10) rfl (by kernel_rfl) (Nat.le_of_eq (by kernel_rfl)) (by kernel_rfl) (by kernel_rfl) (fun _ _ _ h => h) (HSSa.out) (Or.inl ⟨by kernel_rfl, ?hy10⟩) ?r10
            case hy10 =>
              intro w hSw
              try dsimp only at hSw
              go_simp
              try with_reducible rfl
            try simp only [Act.put, List.getElem_toArray, List.getElem_cons_succ, List.getElem_cons_zero, List.setIfInBounds_toArray, List.set_cons_zero, List.set_cons_succ]
            refine AnyBut.takeS (i := 10) (v := undef) rfl (by kernel_rfl) (Nat.le_of_eq (by kernel_rfl)) (by kernel_rfl) (by kernel_rfl) (fun _ _ _ h => h) (HSSa.out) (Or.inr ⟨by kernel_rfl, rfl⟩) ?r11
            try simp only [Act.put, List.getElem_toArray, List.getElem_cons_succ, List.getElem_cons_zero, List.setIfInBounds_toArray, List.set_cons_zero, List.set_cons_succ]
            refine AnyBut.takeS (i := 11) (v := undef) rfl (by kernel_rfl) (Nat.le_of_eq (by kernel_rfl)) (by kernel_rfl) (by kernel_rfl) (fun _ _ _ h => h) (HSSa.out) (Or.inr ⟨by kernel_rfl, rfl⟩) ?r12
            try simp only [Act.put, List.getElem_toArray, List.getElem_cons_succ, List.getElem_cons_zero, List.setIfInBounds_toArray, List.set_cons_zero, List.set_cons_succ]
            refine AnyBut.takeS (i := 12) (v := undef) rfl (by kernel_rfl) (Nat.le_of_eq (by kernel_rfl)) (by kernel_rfl) (by kernel_rfl) (fun _ _ _ h => h) (HSSa.out) (Or.inr ⟨by kernel_rfl, rfl⟩) ?r13
            try simp only [Act.put, List.getElem_toArray, List.getElem_cons_succ, List.getElem_cons_zero, List.setIfInBounds_toArray, List.set_cons_zero, List.set_cons_succ]
            refine AnyBut.takeS (i := 13) (v := undef) rfl (by kernel_rfl) (Nat.le_of_eq (by kernel_rfl)) (by kernel_rfl) (by kernel_rfl) (fun _ _ _ h => h) (HSSa.out) (Or.inr ⟨by kernel_rfl, rfl⟩) ?r14
            try simp only [Act.put, List.getElem_toArray, List.getElem_cons_succ, List.getElem_cons_zero, List.setIfInBounds_toArray, List.set_cons_zero, List.set_cons_succ]
            refine AnyBut.takeS (i := 14) (v := undef) rfl (by kernel_rfl) (Nat.le_of_eq (by kernel_rfl)) (by kernel_rfl) (by kernel_rfl) (fun _ _ _ h => h) (HSSa.out) (Or.inr ⟨by kernel_rfl, rfl⟩) ?r15
            try simp only [Act.put, List.getElem_toArray, List.getElem_cons_succ, List.getElem_cons_zero, List.setIfInBounds_toArray, List.set_cons_zero, List.set_cons_succ]
            refine AnyBut.takeS (i := 15) (v := undef) rfl (by kernel_rfl) (Nat.le_of_eq (by kernel_rfl)) (by kernel_rfl) (by kernel_rfl) (fun _ _ _ h => h) (HSSa.out) (Or.inr ⟨by kernel_rfl, rfl⟩) ?r16
            try simp only [Act.put, List.getElem_toArray, List.getElem_cons_succ, List.getElem_cons_zero, List.setIfInBounds_toArray, List.set_cons_zero, List.set_cons_succ]
            refine AnyBut.takeS (i := 16) (v := undef) rfl (by kernel_rfl) (Nat.le_of_eq (by kernel_rfl)) (by kernel_rfl) (by kernel_rfl) (fun _ _ _ h => h) (HSSa.out) (Or.inr ⟨by kernel_rfl, rfl⟩) ?r17
            try simp only [Act.put, List.getElem_toArray, List.getElem_cons_succ, List.getElem_cons_zero, List.setIfInBounds_toArray, List.set_cons_zero, List.set_cons_succ]
            refine AnyBut.takeS (i := 17) (v := ?v18) rfl (by kernel_rfl) (Nat.le_of_eq (by kernel_rfl)) (by kernel_rfl) (by kernel_rfl) (fun _ _ _ h => h) (HSSa.out) (Or.inl ⟨by kernel_rfl, ?hy18⟩) ?r18
            case hy18 =>
              intro w hSw
              try dsimp only at hSw
              go_simp
              try with_reducible rfl
            try simp only [Act.put, List.getElem_toArray, List.getElem_cons_succ, List.getElem_cons_zero, List.setIfInBounds_toArray, List.set_cons_zero, List.set_cons_succ]
            refine AnyBut.done (by kernel_rfl) ?_
            obtain ⟨wd, hwd⟩ : ∃ w', w' = w5.drew := ⟨_, rfl⟩
            rw [← hwd]
            have HKE := Lib.hid (show Kept (fun _ => False) w5 wd by rw [hwd]; exact HKD.out)
            clear hwd
            have HH6 := Lib.hid (HistBox.same HH5.out HKE.out (fun x => x))
            have HQ6 := Lib.hid (HistBox.same HQ5.out HKE.out (fun x => x))
            obtain ⟨z0, z1, z2, z3, z4, z5⟩ := HistBox.c (h := ⟨hsc, hze, hpo, hpl, hno, hnl⟩) HQ6.out
            dsimp only at z0 z1 z2 z3 z4 z5
            obtain ⟨x0, x1, x2, x3, x4, x5⟩ := HH6.out.c
            obtain ⟨f0, f1, f2, f3, f4, f5⟩ := HH6.out.f
            dsimp only [zeroH] at x0 x1 x2 x3 x4 x5
            go_wp2
            try simp only [Exit.inBlock, Exit.then]
            refine hist_end (h := ⟨hsc, hze, hpo, hpl, hno, hnl⟩) (pv := .slice b1 hpl.length d1) (nv := .slice b2 hnl.length d2) Tryd.results75 rfl rfl rfl (HH6.out.set ⟨hsc, hze, hpo, hpl, hno, hnl⟩ (.slice b1 hpl.length d1) (.slice b2 hnl.length d2)) ?_
            have hk7 := set6_kept (wd) qr (.int .i64 hsc) (.int .u64 (hze : Int)) (.int .i64 hpo) (.slice b1 hpl.length d1) (.int .i64 hno) (.slice b2 hnl.length d2)
            have hR := HR.out
            try rw [if_neg (fun e => e rfl)] at hR
            have hcc : ¬ (0 < n ∧ (⟨ssc, spo, spn, sno, snn⟩ : ShV) = ⟨gsc, gpo, gpl.length, gno, gnl.length⟩) := fun e => by have h1 := HNN.out; have h2 := e.1; omega
            replace hR := hR.trans (if_neg hcc)
            unfold GotTo
            rw [hR]
            refine ⟨_, _, rfl, ((HO5.out.1.kept HKE.out (fun _ _ x => x)).kept hk7 (fun j hj e => own_box (HO5.out.1.kept HKE.out (fun _ _ x => x)) HH6.out (by decide) (by rw [hj, e]))).down HN5.out.1, ((HO5.out.2.kept HKE.out (fun _ _ x => x)).kept hk7 (fun j hj e => own_box (HO5.out.2.kept HKE.out (fun _ _ x => x)) HH6.out (by decide) (by rw [hj, e]))).down HN5.out.1, ((HK5.out.step HKE.out (fun _ _ e => e.elim))).new hk7 (by have := HQ.out; omega), fun e => ?_⟩
            have hb := (HIN.out (by trivial)).keptF HKE.out
            have := hb.kept hk7 (fun e => by have := HSZ.out; have := HQ.out; omega) (fun k e1 e2 => by have h1 := HOV.out k e1; have := HQ.out; omega)
            show BrAt _ B p v bs (t + (1 + N1 + NN))
            rw [show t + (1 + N1 + NN) = t + 1 + N1 + NN by omega]
            exact this
          · by_cases hq : (⟨ssc, spo, spn, sno, snn⟩ : ShV) = ⟨gsc, gpo, gpl.length, gno, gnl.length⟩
            · subst hE
              have z1 : decide (0 < n) = true := decide_eq_true (by omega)
              have z2 : decide ((0 : Int) < (n : Int)) = true := decide_eq_true (by omega)
              have z0 : (0 : Int) < (n : Int) := by omega
              have HNN := Lib.hid hn0
              clear hn0
              have HEQ := Lib.hid (show ssc = gsc ∧ spo = gpo ∧ (spn : Int) = (gpl.length : Int) ∧ sno = gno ∧ (snn : Int) = (gnl.length : Int) by injection hq with e1 e2 e3 e4 e5; exact ⟨e1, e2, by omega, e4, by omega⟩)
              have HQQ := Lib.hid hq
              clear hq
              go_enter Tryd.func75, Tryd.ntmps75
              go_upto_region 1 with fail
              rw [← HW0.out, ← HQ.out.1]
              try rw [← HQ.out.2]
              have c0 := HP0.out.c
              go_wp2_with fail
              refine HT1.out.mono ?_
              rintro e w1 ⟨rfl, hb, hk⟩
              have HB1 := Lib.hid hb
              have HH1 := Lib.hid (HH0.out.same hk (fun e => by have := HSZ.out; have := HQ.out; omega))
              have HK1 := Lib.hid ((show Kept (fun k => k = p) w w0 from keptTo HK0.out).trans hk)
              have HX1 := Lib.hid (HX0.out.same hk (fun e => HSZ.out.2.2.2.2.1 e))
              have HO1 := Lib.hid (And.intro (HO0.out.1.kept hk (fun j hj e => own_box HO0.out.1 HRB.out.box (by decide) (by rw [hj, e]))) (HO0.out.2.kept hk (fun j hj e => own_box HO0.out.2 HRB.out.box (by decide) (by rw [hj, e]))))
              have HTT1 := Lib.hid (HT0.out.keptS hk (by have := HSZ.out; omega))
              have HP1 := Lib.hid (hk.same HP0.out (fun e => by have := HSZ.out; have := HQ.out; omega))
              have HS1 := Lib.hid hk.size
              clear hb hk c0
              have c0 := PtrBox.c HP1.out
              go_wp2_with fail
              refine (HGS.out w1 HB1.out (by have := HSZ.out; have := HS1.out; omega) HTT1.out).mono ?_
              rintro e w2 ⟨rfl, hb, hk⟩
              obtain ⟨w3, hw3⟩ : ∃ w', w' = w2.alloc (.cells #[.int .i64 ssc, .int .i64 spo, .int .i64 (spn : Int), .int .i64 sno, .int .i64 (snn : Int)] 101) := ⟨_, rfl⟩
              have k3 : Kept (fun _ => False) w2 w3 := by rw [hw3]; exact (Kept.refl _ _).alloc _
              have HW3 := Lib.hid hw3
              have hk3 : Kept (fun k => k = p) w1 w3 := hk.step k3 (fun _ _ e => e.elim)
              obtain ⟨qs, hqs⟩ : ∃ q, q = w2.heap.size := ⟨_, rfl⟩
              have HS3 := Lib.hid (show ShBox w3 qs ⟨ssc, spo, spn, sno, snn⟩ by rw [hw3, hqs]; exact heap_alloc_new w2 _)
              have HB3 := Lib.hid (hb.keptF k3)
              have HH3 := Lib.hid (HistBox.same HH1.out hk3 (fun e => by have := HSZ.out; have := HQ.out; omega))
              have HK3 := Lib.hid (HK1.out.trans hk3)
              have HX3 := Lib.hid (HRow.same HX1.out hk3 (fun e => HSZ.out.2.2.2.2.1 e))
              have HO3 := Lib.hid (And.intro (HO1.out.1.kept hk3 (fun j hj e => own_box HO1.out.1 HB1.out.box (by decide) (by rw [hj, e]))) (HO1.out.2.kept hk3 (fun j hj e => own_box HO1.out.2 HB1.out.box (by decide) (by rw [hj, e]))))
              have HTT3 := Lib.hid (HTT1.out.keptS hk3 (by have := HSZ.out; omega))
              have HP3 := Lib.hid (hk3.same HP1.out (fun e => by have := HSZ.out; have := HQ.out; omega))
              have HS3s := Lib.hid (show w1.heap.size ≤ w3.heap.size from hk3.size)
              have HQS := Lib.hid (And.intro hqs hk.size)
              clear hb hk hw3 k3 hk3 c0
              go_upto_region 7 with fail
              rw [← HW3.out, ← hqs]
              clear hqs
              have c0 := PtrBox.c HP3.out
              obtain ⟨s0, s1, s2, s3, s4⟩ := ShBox.c (s := ⟨ssc, spo, spn, sno, snn⟩) HS3.out
              dsimp only at s0 s1 s2 s3 s4
              have hmf : ∀ (fn : Fn) (first cap : Array Value) (w : World), (Instr.makeFunc fn first cap).run Tryd.prog w = .ok (.func fn first cap) w := fun _ _ _ _ => rfl
              go_wp2_with fail
              refine (HGC.out w3 rb (by have := HSZ.out; have := HS1.out; have := HS3s.out; omega) ⟨HB3.out, by have := HSZ.out; have := HS1.out; have := HS3s.out; omega, HTT3.out, HP3.out, by have := HSZ.out; have := HS1.out; have := HS3s.out; have := HQ.out; omega, fun k e => by have := HOV.out k e; have := HSZ.out; have := HS1.out; have := HS3s.out; omega, by have := HSZ.out; have := HS1.out; have := HS3s.out; omega⟩).mono ?_
              rintro e w4 ⟨pv, nv, rfl, o1, o2, k4, hin⟩
              obtain ⟨b1, d1, rfl⟩ := o1.slice
              obtain ⟨b2, d2, rfl⟩ := o2.slice
              unfold histV
              dsimp only at o1 o2 hin ⊢
              obtain ⟨w5, hw5⟩ : ∃ w', w' = w4.alloc (.cells #[.int .i64 hsc, .int .u64 (hze : Int), .int .i64 hpo, .slice b1 hpl.length d1, .int .i64 hno, .slice b2 hnl.length d2] 62) := ⟨_, rfl⟩
              have k5 : Kept (fun _ => False) w4 w5 := by rw [hw5]; exact (Kept.refl _ _).alloc _
              have HW5 := Lib.hid hw5
              obtain ⟨qh, hqh⟩ : ∃ q, q = w4.heap.size := ⟨_, rfl⟩
              have HQ5 := Lib.hid (show HistBox w5 qh ⟨hsc, hze, hpo, hpl, hno, hnl⟩ (.slice b1 hpl.length d1) (.slice b2 hnl.length d2) by rw [hw5, hqh]; exact heap_alloc_new w4 _)
              have hk5 : Kept (fun k => k = p) w3 w5 := k4.step k5 (fun _ _ e => e.elim)
              have HO5 := Lib.hid (And.intro (o1.kept k5 (fun _ _ x => x)) (o2.kept k5 (fun _ _ x => x)))
              have HIN := Lib.hid (fun e => (hin e).br.keptF k5 : _ → BrAt w5 B p v bs (t + 1 + N1 + NN))
              have HH5 := Lib.hid (HistBox.same HH3.out hk5 (fun e => by have := HSZ.out; have := HQ.out; omega))
              have HS5 := Lib.hid (ShBox.same HS3.out hk5 (fun e => by have := HSZ.out; have := HQ.out; have := HQS.out; have := HS1.out; omega))
              have HK5 := Lib.hid (HK3.out.trans hk5)
              have HX5 := Lib.hid (HRow.same HX3.out hk5 (fun e => HSZ.out.2.2.2.2.1 e))
              have HG5 := Lib.hid (show HistAt w5 ⟨gsc, gze, gpo, gpl, gno, gnl⟩ (.slice a1 gpl.length c1) (.slice a2 gnl.length c2) from ⟨(HO3.out.1.kept hk5 (fun j hj e => own_box HO3.out.1 HB3.out.box (by decide) (by rw [hj, e]))).at_, (HO3.out.2.kept hk5 (fun j hj e => own_box HO3.out.2 HB3.out.box (by decide) (by rw [hj, e]))).at_⟩)
              have HN5 := Lib.hid (show w.heap.size ≤ w3.heap.size ∧ qh ≠ qr by have := HSZ.out; have := HS1.out; have := HS3s.out; have := k4.size; have := HQ.out; omega)
              clear o1 o2 k4 hin hw5 k5 hk5 s0 s1 s2 s3 s4 c0
              go_upto_region 10 with fail
              rw [← HW5.out, ← hqh]
              clear hqh
              have hkd := (Kept.refl (fun _ => False) w5).drew
              have HSSa : Hid ((fun w' => w'.cell? ⟨qs, 0, none⟩ = some (.int .i64 ssc) ∧ w'.cell? ⟨qs, 1, none⟩ = some (.int .i64 spo) ∧ w'.cell? ⟨qs, 2, none⟩ = some (.int .i64 (spn : Int)) ∧ w'.cell? ⟨qs, 3, none⟩ = some (.int .i64 sno) ∧ w'.cell? ⟨qs, 4, none⟩ = some (.int .i64 (snn : Int)) ∧ w'.cell? ⟨r, 0, none⟩ = some (.int .i64 (n : Int)) ∧ w'.cell? ⟨r, 1, none⟩ = some (.int .i64 gsc) ∧ w'.cell? ⟨r, 2, none⟩ = some (.int .u64 (gze : Int)) ∧ w'.cell? ⟨r, 3, none⟩ = some (.int .i64 gpo) ∧ w'.cell? ⟨r, 4, none⟩ = some (.slice a1 gpl.length c1) ∧ w'.cell? ⟨r, 5, none⟩ = some (.int .i64 gno) ∧ w'.cell? ⟨r, 6, none⟩ = some (.slice a2 gnl.length c2)) w5.drew) := by
                obtain ⟨s0, s1, s2, s3, s4⟩ := ShBox.c (s := ⟨ssc, spo, spn, sno, snn⟩) (ShBox.same HS5.out hkd (fun x => x))
                obtain ⟨y0, y1, y2, y3, y4, y5, y6⟩ := HRow.c (h := ⟨gsc, gze, gpo, gpl, gno, gnl⟩) (HRow.same HX5.out hkd (fun x => x))
                exact Lib.hid ⟨s0, s1, s2, s3, s4, y0, y1, y2, y3, y4, y5, y6⟩
              have HKD := Lib.hid hkd
              clear hkd
              refine AnyBut.start (S := fun w' => w'.cell? ⟨qs, 0, none⟩ = some (.int .i64 ssc) ∧ w'.cell? ⟨qs, 1, none⟩ = some (.int .i64 spo) ∧ w'.cell? ⟨qs, 2, none⟩ = some (.int .i64 (spn : Int)) ∧ w'.cell? ⟨qs, 3, none⟩ = some (.int .i64 sno) ∧ w'.cell? ⟨qs, 4, none⟩ = some (.int .i64 (snn : Int)) ∧ w'.cell? ⟨r, 0, none⟩ = some (.int .i64 (n : Int)) ∧ w'.cell? ⟨r, 1, none⟩ = some (.int .i64 gsc) ∧ w'.cell? ⟨r, 2, none⟩ = some (.int .u64 (gze : Int)) ∧ w'.cell? ⟨r, 3, none⟩ = some (.int .i64 gpo) ∧ w'.cell? ⟨r, 4, none⟩ = some (.slice a1 gpl.length c1) ∧ w'.cell? ⟨r, 5, none⟩ = some (.int .i64 gno) ∧ w'.cell? ⟨r, 6, none⟩ = some (.slice a2 gnl.length c2)) (k := 18) (by kernel_rfl) ?_
              refine AnyBut.takeS (i := 0) (v := ?v19) rfl (by kernel_rfl) (Nat.le_of_eq (by kernel_rfl)) (by kernel_rfl) (by kernel_rfl) (fun _ _ _ h => h) (HSSa.out) (Or.inl ⟨by kernel_rfl, ?hy19⟩) ?r19
              case hy19 =>
                intro w hSw
                try dsimp only at hSw
                go_simp
                try exact ifs5n HEQ.out.1 HEQ.out.2.1 HEQ.out.2.2.1 HEQ.out.2.2.2.1 HEQ.out.2.2.2.2
                try with_reducible rfl
              try simp only [Act.put, List.getElem_toArray, List.getElem_cons_zero, List.setIfInBounds_toArray, List.set_cons_zero, List.set_cons_succ]
              refine AnyBut.takeS (i := 1) (v := ?v20) rfl (by kernel_rfl) (Nat.le_of_eq (by kernel_rfl)) (by kernel_rfl) (by kernel_rfl) (fun _ _ _ h => h) (HSSa.out) (Or.inl ⟨by kernel_rfl, ?hy20⟩) ?r20
              case hy20 =>
                intro w hSw
                try dsimp only at hSw
                go_simp
                try exact ifs5n HEQ.out.1 HEQ.out.2.1 HEQ.out.2.2.1 HEQ.out.2.2.2.1 HEQ.out.2.2.2.2
                try with_reducible rfl
              try simp only [Act.put, List.getElem_toArray, List.getElem_cons_succ, List.getElem_cons_zero, List.setIfInBounds_toArray, List.set_cons_zero, List.set_cons_succ]
              refine AnyBut.takeS (i := 2) (v := ?v21) rfl (by kernel_rfl) (Nat.le_of_eq (by kernel_rfl)) (by kernel_rfl) (by kernel_rfl) (fun _ _ _ h => h) (HSSa.out) (Or.inl ⟨by kernel_rfl, ?hy21⟩) ?r21
              case hy21 =>
                intro w hSw
                try dsimp only at hSw
                go_simp
                try exact ifs5n HEQ.out.1 HEQ.out.2.1 HEQ.out.2.2.1 HEQ.out.2.2.2.1 HEQ.out.2.2.2.2
                try with_reducible rfl
              try simp only [Act.put, List.getElem_toArray, List.getElem_cons_succ, List.getElem_cons_zero, List.setIfInBounds_toArray, List.set_cons_zero, List.set_cons_succ]
              refine AnyBut.takeS (i := 3) (v := ?v22) rfl (by kernel_rfl) (Nat.le_of_eq (by kernel_rfl)) (by kernel_rfl) (by kernel_rfl) (fun _ _ _ h => h) (HSSa.out) (Or.inl ⟨by kernel_rfl, ?hy22⟩) ?r22
              case hy22 =>
                intro w hSw
                try dsimp only at hSw
                go_simp
                try exact ifs5n HEQ.out.1 HEQ.out.2.1 HEQ.out.2.2.1 HEQ.out.2.2.2.1 HEQ.out.2.2.2.2
                try with_reducible rfl
              try simp only [Act.put, List.getElem_toArray, List.getElem_cons_succ, List.getElem_cons_zero, List.setIfInBounds_toArray, List.set_cons_zero, List.set_cons_succ]
              refine AnyBut.takeS (i := 4) (v := ?v23) rfl (by kernel_rfl) (Nat.le_of_eq (by kernel_rfl)) (by kernel_rfl) (by kernel_rfl) (fun _ _ _ h => h) (HSSa.out) (Or.inl ⟨by kernel_rfl, ?hy23⟩) ?r23
              case hy23 =>
                intro w hSw
                try dsimp only at hSw
                go_simp
                try exact ifs5n HEQ.out.1 HEQ.out.2.1 HEQ.out.2.2.1 HEQ.out.2.2.2.1 HEQ.out.2.2.2.2
                try with_reducible rfl
              try simp only [Act.put, List.getElem_toArray, List.getElem_cons_succ, List.getElem_cons_zero, List.setIfInBounds_toArray, List.set_cons_zero, List.set_cons_succ]
              refine AnyBut.takeS (i := 5) (v := ?v24) rfl (by kernel_rfl) (Nat.le_of_eq (by kernel_rfl)) (by kernel_rfl) (by kernel_rfl) (fun _ _ _ h => h) (HSSa.out) (Or.inl ⟨by kernel_rfl, ?hy24⟩) ?r24
              case hy24 =>
                intro w hSw
                try dsimp only at hSw
                go_simp
                try exact ifs5n HEQ.out.1 HEQ.out.2.1 HEQ.out.2.2.1 HEQ.out.2.2.2.1 HEQ.out.2.2.2.2
                try with_reducible rfl
              try simp only [Act.put, List.getElem_toArray, List.getElem_cons_succ, List.getElem_cons_zero, List.setIfInBounds_toArray, List.set_cons_zero, List.set_cons_succ]
              refine AnyBut.takeS (i := 6) (v := ?v25) rfl (by kernel_rfl) (Nat.le_of_eq (by kernel_rfl)) (by kernel_rfl) (by kernel_rfl) (fun _ _ _ h => h) (HSSa.out) (Or.inl ⟨by kernel_rfl, ?hy25⟩) ?r25
              case hy25 =>
                intro w hSw
                try dsimp only at hSw
                go_simp
                try exact ifs5n HEQ.out.1 HEQ.out.2.1 HEQ.out.2.2.1 HEQ.out.2.2.2.1 HEQ.out.2.2.2.2
                try with_reducible rfl
              try simp only [Act.put, List.getElem_toArray, List.getElem_cons_succ, List.getElem_cons_zero, List.setIfInBounds_toArray, List.set_cons_zero, List.set_cons_succ]
              refine AnyBut.takeS (i := 7) (v := ?v26) rfl (by kernel_rfl) (Nat.le_of_eq (by kernel_rfl)) (by kernel_rfl) (by kernel_rfl) (fun _ _ _ h => h) (HSSa.out) (Or.inl ⟨by kernel_rfl, ?hy26⟩) ?r26
              case hy26 =>
                intro w hSw
                try dsimp only at hSw
                go_simp
                try exact ifs5n HEQ.out.1 HEQ.out.2.1 HEQ.out.2.2.1 HEQ.out.2.2.2.1 HEQ.out.2.2.2.2
                try with_reducible rfl
              try simp only [Act.put, List.getElem_toArray, List.getElem_cons_succ, List.getElem_cons_zero, List.setIfInBounds_toArray, List.set_cons_zero, List.set_cons_succ]
              refine AnyBut.takeS (i := 8) (v := ?v27) rfl (by kernel_rfl) (Nat.le_of_eq (by kernel_rfl)) (by kernel_rfl) (by kernel_rfl) (fun _ _ _ h => h) (HSSa.out) (Or.inl ⟨by kernel_rfl, ?hy27⟩) ?r27
              case hy27 =>
                intro w hSw
                try dsimp only at hSw
                go_simp
                try exact ifs5n HEQ.out.1 HEQ.out.2.1 HEQ.out.2.2.1 HEQ.out.2.2.2.1 HEQ.out.2.2.2.2
                try with_reducible rfl
              try simp only [Act.put, List.getElem_toArray, List.getElem_cons_succ, List.getElem_cons_zero, List.setIfInBounds_toArray, List.set_cons_zero, List.set_cons_succ]
              refine AnyBut.takeS (i := 9) (v := ?v28) rfl (by kernel_rfl) (Nat.le_of_eq (by kernel_rfl)) (by kernel_rfl) (by kernel_rfl) (fun _ _ _ h => h) (HSSa.out) (Or.inl ⟨by kernel_rfl, ?hy28⟩) ?r28
              case hy28 =>
                intro w hSw
                try dsimp only at hSw
                go_simp
                try exact ifs5n HEQ.out.1 HEQ.out.2.1 HEQ.out.2.2.1 HEQ.out.2.2.2.1 HEQ.out.2.2.2.2
                try with_reducible rfl
              try simp only [Act.put, List.getElem_toArray, List.getElem_cons_succ, List.getElem_cons_zero, List.setIfInBounds_toArray, List.set_cons_zero, List.set_cons_succ]
              refine AnyBut.takeS (i := 10) (v := ?v29) rfl (by kernel_rfl) (Nat.le_of_eq (by kernel_rfl)) (by kernel_rfl) (by kernel_rfl) (fun _ _ _ h => h) (HSSa.out) (Or.inl ⟨by kernel_rfl, ?hy29⟩) ?r29
              case hy29 =>
                intro w hSw
                try dsimp only at hSw
                go_simp
                try exact ifs5n HEQ.out.1 HEQ.out.2.1 HEQ.out.2.2.1 HEQ.out.2.2.2.1 HEQ.out.2.2.2.2
                try with_reducible rfl
              try simp only [Act.put, List.getElem_toArray, List.getElem_cons_succ, List.getElem_cons_zero, List.setIfInBounds_toArray, List.set_cons_zero, List.set_cons_succ]
              refine AnyBut.takeS (i := 11) (v := ?v30) rfl (by kernel_rfl) (Nat.le_of_eq (by kernel_rfl)) (by kernel_rfl) (by kernel_rfl) (fun _ _ _ h => h) (HSSa.out) (Or.inl ⟨by kernel_rfl, ?hy30⟩) ?r30
              case hy30 =>
                intro w hSw
                try dsimp only at hSw
                go_simp
                try exact ifs5n HEQ.out.1 HEQ.out.2.1 HEQ.out.2.2.1 HEQ.out.2.2.2.1 HEQ.out.2.2.2.2
                try with_reducible rfl
              try simp only [Act.put, List.getElem_toArray, List.getElem_cons_succ, List.getElem_cons_zero, List.setIfInBounds_toArray, List.set_cons_zero, List.set_cons_succ]
              refine AnyBut.takeS (i := 12) (v := ?v31) rfl (by kernel_rfl) (Nat.le_of_eq (by kernel_rfl)) (by kernel_rfl) (by kernel_rfl) (fun _ _ _ h => h) (HSSa.out) (Or.inl ⟨by kernel_rfl, ?hy31⟩) ?r31
              case hy31 =>
                intro w hSw
                try dsimp only at hSw
                go_simp
                try exact ifs5n HEQ.out.1 HEQ.out.2.1 HEQ.out.2.2.1 HEQ.out.2.2.2.1 HEQ.out.2.2.2.2
                try with_reducible rfl
              try simp only [Act.put, List.getElem_toArray, List.getElem_cons_succ, List.getElem_cons_zero, List.setIfInBounds_toArray, List.set_cons_zero, List.set_cons_succ]
              refine AnyBut.takeS (i := 13) (v := ?v32) rfl (by kernel_rfl) (Nat.le_of_eq (by kernel_rfl)) (by kernel_rfl) (by kernel_rfl) (fun _ _ _ h => h) (HSSa.out) (Or.inl ⟨by kernel_rfl, ?hy32⟩) ?r32
              case hy32 =>
                intro w hSw
                try dsimp only at hSw
                go_simp
                try exact ifs5n HEQ.out.1 HEQ.out.2.1 HEQ.out.2.2.1 HEQ.out.2.2.2.1 HEQ.out.2.2.2.2
                try with_reducible rfl
              try simp only [Act.put, List.getElem_toArray, List.getElem_cons_succ, List.getElem_cons_zero, List.setIfInBounds_toArray, List.set_cons_zero, List.set_cons_succ]
              refine AnyBut.takeS (i := 14) (v := ?v33) rfl (by kernel_rfl) (Nat.le_of_eq (by kernel_rfl)) (by kernel_rfl) (by kernel_rfl) (fun _ _ _ h => h) (HSSa.out) (Or.inl ⟨by kernel_rfl, ?hy33⟩) ?r33
              case hy33 =>
                intro w hSw
                try dsimp only at hSw
                go_simp
                try exact ifs5n HEQ.out.1 HEQ.out.2.1 HEQ.out.2.2.1 HEQ.out.2.2.2.1 HEQ.out.2.2.2.2
                try with_reducible rfl
              try simp only [Act.put, List.getElem_toArray, List.getElem_cons_succ, List.getElem_cons_zero, List.setIfInBounds_toArray, List.set_cons_zero, List.set_cons_succ]
              refine AnyBut.one (i := 15) (by kernel_rfl) rfl (fun K hK => ?_)
              go_simp
              go_wp2_with fail
              refine (HSG.out _ _ _ (HG5.out.on HKD.out)).mono ?_
              rintro e w6 ⟨rfl, k6⟩
              have HKE := Lib.hid (HKD.out.trans k6)
              clear k6
              have HSSb : Hid ((fun w' => w'.cell? ⟨qs, 0, none⟩ = some (.int .i64 ssc) ∧ w'.cell? ⟨qs, 1, none⟩ = some (.int .i64 spo) ∧ w'.cell? ⟨qs, 2, none⟩ = some (.int .i64 (spn : Int)) ∧ w'.cell? ⟨qs, 3, none⟩ = some (.int .i64 sno) ∧ w'.cell? ⟨qs, 4, none⟩ = some (.int .i64 (snn : Int)) ∧ w'.cell? ⟨r, 0, none⟩ = some (.int .i64 (n : Int)) ∧ w'.cell? ⟨r, 1, none⟩ = some (.int .i64 gsc) ∧ w'.cell? ⟨r, 2, none⟩ = some (.int .u64 (gze : Int)) ∧ w'.cell? ⟨r, 3, none⟩ = some (.int .i64 gpo) ∧ w'.cell? ⟨r, 4, none⟩ = some (.slice a1 gpl.length c1) ∧ w'.cell? ⟨r, 5, none⟩ = some (.int .i64 gno) ∧ w'.cell? ⟨r, 6, none⟩ = some (.slice a2 gnl.length c2)) w6) := by
                obtain ⟨s0, s1, s2, s3, s4⟩ := ShBox.c (s := ⟨ssc, spo, spn, sno, snn⟩) (ShBox.same HS5.out HKE.out (fun x => x))
                obtain ⟨y0, y1, y2, y3, y4, y5, y6⟩ := HRow.c (h := ⟨gsc, gze, gpo, gpl, gno, gnl⟩) (HRow.same HX5.out HKE.out (fun x => x))
                exact Lib.hid ⟨s0, s1, s2, s3, s4, y0, y1, y2, y3, y4, y5, y6⟩
              go_wp2
              refine hK.out _ _ (HSSb.out) ?_
              clear hK K
              try simp only [Act.put, List.getElem_toArray, List.getElem_cons_succ, List.getElem_cons_zero, List.setIfInBounds_toArray, List.set_cons_zero, List.set_cons_succ]
              refine AnyBut.takeS (i := 16) (v := ?v34) rfl (by kernel_rfl) (Nat.le_of_eq (by kernel_rfl)) (by kernel_rfl) (by kernel_rfl) (fun _ _ _ h => h) (HSSb.out) (Or.inl ⟨by kernel_rfl, ?hy34⟩) ?r34
              case hy34 =>
                intro w hSw
                try dsimp only at hSw
                go_simp
                try exact ifs5n HEQ.out.1 HEQ.out.2.1 HEQ.out.2.2.1 HEQ.out.2.2.2.1 HEQ.out.2.2.2.2
                try with_reducible rfl
              try simp only [Act.put, List.getElem_toArray, List.getElem_cons_succ, List.getElem_cons_zero, List.setIfInBounds_toArray, List.set_cons_zero, List.set_cons_succ]
              refine AnyBut.takeS (i := 17) (v := ?v35) rfl (by kernel_rfl) (Nat.le_of_eq (by kernel_rfl)) (by kernel_rfl) (by kernel_rfl) (fun _ _ _ h => h) (HSSb.out) (Or.inl ⟨by kernel_rfl, ?hy35⟩) ?r35
              case hy35 =>
                intro w hSw
                try dsimp only at hSw
                go_simp
                try exact ifs5n HEQ.out.1 HEQ.out.2.1 HEQ.out.2.2.1 HEQ.out.2.2.2.1 HEQ.out.2.2.2.2
                try with_reducible rfl
              try simp only [Act.put, List.getElem_toArray, List.getElem_cons_succ, List.getElem_cons_zero, List.setIfInBounds_toArray, List.set_cons_zero, List.set_cons_succ]
              refine AnyBut.done (by kernel_rfl) ?_
              have HH6 := Lib.hid (HistBox.same HH5.out HKE.out (fun x => x))
              have HQ6 := Lib.hid (HistBox.same HQ5.out HKE.out (fun x => x))
              obtain ⟨z0, z1, z2, z3, z4, z5⟩ := HistBox.c (h := ⟨hsc, hze, hpo, hpl, hno, hnl⟩) HQ6.out
              dsimp only at z0 z1 z2 z3 z4 z5
              obtain ⟨x0, x1, x2, x3, x4, x5⟩ := HH6.out.c
              obtain ⟨f0, f1, f2, f3, f4, f5⟩ := HH6.out.f
              dsimp only [zeroH] at x0 x1 x2 x3 x4 x5
              go_wp2
              try simp only [Exit.inBlock, Exit.then]
              refine hist_end (h := ⟨hsc, hze, hpo, hpl, hno, hnl⟩) (pv := .slice b1 hpl.length d1) (nv := .slice b2 hnl.length d2) Tryd.results75 rfl rfl rfl (HH6.out.set ⟨hsc, hze, hpo, hpl, hno, hnl⟩ (.slice b1 hpl.length d1) (.slice b2 hnl.length d2)) ?_
              have hk7 := set6_kept (w6) qr (.int .i64 hsc) (.int .u64 (hze : Int)) (.int .i64 hpo) (.slice b1 hpl.length d1) (.int .i64 hno) (.slice b2 hnl.length d2)
              have hR := HR.out
              try rw [if_neg (fun e => e rfl)] at hR
              have hcc : (0 < n ∧ (⟨ssc, spo, spn, sno, snn⟩ : ShV) = ⟨gsc, gpo, gpl.length, gno, gnl.length⟩) := ⟨by have := HNN.out; omega, HQQ.out⟩
              replace hR := hR.trans (if_pos hcc)
              unfold GotTo
              rw [hR]
              refine ⟨_, _, rfl, ((HO5.out.1.kept HKE.out (fun _ _ x => x)).kept hk7 (fun j hj e => own_box (HO5.out.1.kept HKE.out (fun _ _ x => x)) HH6.out (by decide) (by rw [hj, e]))).down HN5.out.1, ((HO5.out.2.kept HKE.out (fun _ _ x => x)).kept hk7 (fun j hj e => own_box (HO5.out.2.kept HKE.out (fun _ _ x => x)) HH6.out (by decide) (by rw [hj, e]))).down HN5.out.1, ((HK5.out.step HKE.out (fun _ _ e => e.elim))).new hk7 (by have := HQ.out; omega), fun e => ?_⟩
              first | exact absurd e HEE.out | exact absurd (show (3 : Nat) = 0 from e) (by decide)
            · subst hE
              have z1 : decide (0 < n) = true := decide_eq_true (by omega)
              have z2 : decide ((0 : Int) < (n : Int)) = true := decide_eq_true (by omega)
              have z0 : (0 : Int) < (n : Int) := by omega
              have HNN := Lib.hid hn0
              clear hn0
              have HEQ := Lib.hid (show ¬ (ssc = gsc ∧ spo = gpo ∧ (spn : Int) = (gpl.length : Int) ∧ sno = gno ∧ (snn : Int) = (gnl.length : Int)) by rintro ⟨e1, e2, e3, e4, e5⟩; exact hq (by rw [e1, e2, e4, show spn = gpl.length by omega, show snn = gnl.length by omega]))
              have HQQ := Lib.hid hq
              clear hq
              go_enter Tryd.func75, Tryd.ntmps75
              go_upto_region 1 with fail
              rw [← HW0.out, ← HQ.out.1]
              try rw [← HQ.out.2]
              have c0 := HP0.out.c
              go_wp2_with fail
              refine HT1.out.mono ?_
              rintro e w1 ⟨rfl, hb, hk⟩
              have HB1 := Lib.hid hb
              have HH1 := Lib.hid (HH0.out.same hk (fun e => by have := HSZ.out; have := HQ.out; omega))
              have HK1 := Lib.hid ((show Kept (fun k => k = p) w w0 from keptTo HK0.out).trans hk)
              have HX1 := Lib.hid (HX0.out.same hk (fun e => HSZ.out.2.2.2.2.1 e))
              have HO1 := Lib.hid (And.intro (HO0.out.1.kept hk (fun j hj e => own_box HO0.out.1 HRB.out.box (by decide) (by rw [hj, e]))) (HO0.out.2.kept hk (fun j hj e => own_box HO0.out.2 HRB.out.box (by decide) (by rw [hj, e]))))
              have HTT1 := Lib.hid (HT0.out.keptS hk (by have := HSZ.out; omega))
              have HP1 := Lib.hid (hk.same HP0.out (fun e => by have := HSZ.out; have := HQ.out; omega))
              have HS1 := Lib.hid hk.size
              clear hb hk c0
              have c0 := PtrBox.c HP1.out
              go_wp2_with fail
              refine (HGS.out w1 HB1.out (by have := HSZ.out; have := HS1.out; omega) HTT1.out).mono ?_
              rintro e w2 ⟨rfl, hb, hk⟩
              obtain ⟨w3, hw3⟩ : ∃ w', w' = w2.alloc (.cells #[.int .i64 ssc, .int .i64 spo, .int .i64 (spn : Int), .int .i64 sno, .int .i64 (snn : Int)] 101) := ⟨_, rfl⟩
              have k3 : Kept (fun _ => False) w2 w3 := by rw [hw3]; exact (Kept.refl _ _).alloc _
              have HW3 := Lib.hid hw3
              have hk3 : Kept (fun k => k = p) w1 w3 := hk.step k3 (fun _ _ e => e.elim)
              obtain ⟨qs, hqs⟩ : ∃ q, q = w2.heap.size := ⟨_, rfl⟩
              have HS3 := Lib.hid (show ShBox w3 qs ⟨ssc, spo, spn, sno, snn⟩ by rw [hw3, hqs]; exact heap_alloc_new w2 _)
              have HB3 := Lib.hid (hb.keptF k3)
              have HH3 := Lib.hid (HistBox.same HH1.out hk3 (fun e => by have := HSZ.out; have := HQ.out; omega))
              have HK3 := Lib.hid (HK1.out.trans hk3)
              have HX3 := Lib.hid (HRow.same HX1.out hk3 (fun e => HSZ.out.2.2.2.2.1 e))
              have HO3 := Lib.hid (And.intro (HO1.out.1.kept hk3 (fun j hj e => own_box HO1.out.1 HB1.out.box (by decide) (by rw [hj, e]))) (HO1.out.2.kept hk3 (fun j hj e => own_box HO1.out.2 HB1.out.box (by decide) (by rw [hj, e]))))
              have HTT3 := Lib.hid (HTT1.out.keptS hk3 (by have := HSZ.out; omega))
              have HP3 := Lib.hid (hk3.same HP1.out (fun e => by have := HSZ.out; have := HQ.out; omega))
              have HS3s := Lib.hid (show w1.heap.size ≤ w3.heap.size from hk3.size)
              have HQS := Lib.hid (And.intro hqs hk.size)
              clear hb hk hw3 k3 hk3 c0
              go_upto_region 7 with fail
              rw [← HW3.out, ← hqs]
              clear hqs
              have c0 := PtrBox.c HP3.out
              obtain ⟨s0, s1, s2, s3, s4⟩ := ShBox.c (s := ⟨ssc, spo, spn, sno, snn⟩) HS3.out
              dsimp only at s0 s1 s2 s3 s4
              have hmf : ∀ (fn : Fn) (first cap : Array Value) (w : World), (Instr.makeFunc fn first cap).run Tryd.prog w = .ok (.func fn first cap) w := fun _ _ _ _ => rfl
              go_wp2_with fail
              refine (HGC.out w3 rb (by have := HSZ.out; have := HS1.out; have := HS3s.out; omega) ⟨HB3.out, by have := HSZ.out; have := HS1.out; have := HS3s.out; omega, HTT3.out, HP3.out, by have := HSZ.out; have := HS1.out; have := HS3s.out; have := HQ.out; omega, fun k e => by have := HOV.out k e; have := HSZ.out; have := HS1.out; have := HS3s.out; omega, by have := HSZ.out; have := HS1.out; have := HS3s.out; omega⟩).mono ?_
              rintro e w4 ⟨pv, nv, rfl, o1, o2, k4, hin⟩
              obtain ⟨b1, d1, rfl⟩ := o1.slice
              obtain ⟨b2, d2, rfl⟩ := o2.slice
              unfold histV
              dsimp only at o1 o2 hin ⊢
              obtain ⟨w5, hw5⟩ : ∃ w', w' = w4.alloc (.cells #[.int .i64 hsc, .int .u64 (hze : Int), .int .i64 hpo, .slice b1 hpl.length d1, .int .i64 hno, .slice b2 hnl.length d2] 62) := ⟨_, rfl⟩
              have k5 : Kept (fun _ => False) w4 w5 := by rw [hw5]; exact (Kept.refl _ _).alloc _
              have HW5 := Lib.hid hw5
              obtain ⟨qh, hqh⟩ : ∃ q, q = w4.heap.size := ⟨_, rfl⟩
              have HQ5 := Lib.hid (show HistBox w5 qh ⟨hsc, hze, hpo, hpl, hno, hnl⟩ (.slice b1 hpl.length d1) (.slice b2 hnl.length d2) by rw [hw5, hqh]; exact heap_alloc_new w4 _)
              have hk5 : Kept (fun k => k = p) w3 w5 := k4.step k5 (fun _ _ e => e.elim)
              have HO5 := Lib.hid (And.intro (o1.kept k5 (fun _ _ x => x)) (o2.kept k5 (fun _ _ x => x)))
              have HIN := Lib.hid (fun e => (hin e).br.keptF k5 : _ → BrAt w5 B p v bs (t + 1 + N1 + NN))
              have HH5 := Lib.hid (HistBox.same HH3.out hk5 (fun e => by have := HSZ.out; have := HQ.out; omega))
              have HS5 := Lib.hid (ShBox.same HS3.out hk5 (fun e => by have := HSZ.out; have := HQ.out; have := HQS.out; have := HS1.out; omega))
              have HK5 := Lib.hid (HK3.out.trans hk5)
              have HX5 := Lib.hid (HRow.same HX3.out hk5 (fun e => HSZ.out.2.2.2.2.1 e))
              have HG5 := Lib.hid (show HistAt w5 ⟨gsc, gze, gpo, gpl, gno, gnl⟩ (.slice a1 gpl.length c1) (.slice a2 gnl.length c2) from ⟨(HO3.out.1.kept hk5 (fun j hj e => own_box HO3.out.1 HB3.out.box (by decide) (by rw [hj, e]))).at_, (HO3.out.2.kept hk5 (fun j hj e => own_box HO3.out.2 HB3.out.box (by decide) (by rw [hj, e]))).at_⟩)
              have HN5 := Lib.hid (show w.heap.size ≤ w3.heap.size ∧ qh ≠ qr by have := HSZ.out; have := HS1.out; have := HS3s.out; have := k4.size; have := HQ.out; omega)
              clear o1 o2 k4 hin hw5 k5 hk5 s0 s1 s2 s3 s4 c0
              go_upto_region 10 with fail
              rw [← HW5.out, ← hqh]
              clear hqh
              have hkd := (Kept.refl (fun _ => False) w5).drew
              have HSSa : Hid ((fun w' => w'.cell? ⟨qs, 0, none⟩ = some (.int .i64 ssc) ∧ w'.cell? ⟨qs, 1, none⟩ = some (.int .i64 spo) ∧ w'.cell? ⟨qs, 2, none⟩ = some (.int .i64 (spn : Int)) ∧ w'.cell? ⟨qs, 3, none⟩ = some (.int .i64 sno) ∧ w'.cell? ⟨qs, 4, none⟩ = some (.int .i64 (snn : Int)) ∧ w'.cell? ⟨r, 0, none⟩ = some (.int .i64 (n : Int)) ∧ w'.cell? ⟨r, 1, none⟩ = some (.int .i64 gsc) ∧ w'.cell? ⟨r, 2, none⟩ = some (.int .u64 (gze : Int)) ∧ w'.cell? ⟨r, 3, none⟩ = some (.int .i64 gpo) ∧ w'.cell? ⟨r, 4, none⟩ = some (.slice a1 gpl.length c1) ∧ w'.cell? ⟨r, 5, none⟩ = some (.int .i64 gno) ∧ w'.cell? ⟨r, 6, none⟩ = some (.slice a2 gnl.length c2)) w5.drew) := by
                obtain ⟨s0, s1, s2, s3, s4⟩ := ShBox.c (s := ⟨ssc, spo, spn, sno, snn⟩) (ShBox.same HS5.out hkd (fun x => x))
                obtain ⟨y0, y1, y2, y3, y4, y5, y6⟩ := HRow.c (h := ⟨gsc, gze, gpo, gpl, gno, gnl⟩) (HRow.same HX5.out hkd (fun x => x))
                exact Lib.hid ⟨s0, s1, s2, s3, s4, y0, y1, y2, y3, y4, y5, y6⟩
              have HKD := Lib.hid hkd
              clear hkd
              refine AnyBut.start (S := fun w' => w'.cell? ⟨qs, 0, none⟩ = some (.int .i64 ssc) ∧ w'.cell? ⟨qs, 1, none⟩ = some (.int .i64 spo) ∧ w'.cell? ⟨qs, 2, none⟩ = some (.int .i64 (spn : Int)) ∧ w'.cell? ⟨qs, 3, none⟩ = some (.int .i64 sno) ∧ w'.cell? ⟨qs, 4, none⟩ = some (.int .i64 (snn : Int)) ∧ w'.cell? ⟨r, 0, none⟩ = some (.int .i64 (n : Int)) ∧ w'.cell? ⟨r, 1, none⟩ = some (.int .i64 gsc) ∧ w'.cell? ⟨r, 2, none⟩ = some (.int .u64 (gze : Int)) ∧ w'.cell? ⟨r, 3, none⟩ = some (.int .i64 gpo) ∧ w'.cell? ⟨r, 4, none⟩ = some (.slice a1 gpl.length c1) ∧ w'.cell? ⟨r, 5, none⟩ = some (.int .i64 gno) ∧ w'.cell? ⟨r, 6, none⟩ = some (.slice a2 gnl.length c2)) (k := 18) (by kernel_rfl) ?_
              refine AnyBut.takeS (i := 0) (v := ?v36) rfl (by kernel_rfl) (Nat.le_of_eq (by kernel_rfl)) (by kernel_rfl) (by kernel_rfl) (fun _ _ _ h => h) (HSSa.out) (Or.inl ⟨by kernel_rfl, ?hy36⟩) ?r36
              case hy36 =>
                intro w hSw
                try dsimp only at hSw
                go_simp
                try exact ifs5 HEQ.out
                try with_reducible rfl
              try simp only [Act.put, List.getElem_toArray, List.getElem_cons_zero, List.setIfInBounds_toArray, List.set_cons_zero, List.set_cons_succ]
              refine AnyBut.takeS (i := 1) (v := ?v37) rfl (by kernel_rfl) (Nat.le_of_eq (by kernel_rfl)) (by kernel_rfl) (by kernel_rfl) (fun _ _ _ h => h) (HSSa.out) (Or.inl ⟨by kernel_rfl, ?hy37⟩) ?r37
              case hy37 =>
                intro w hSw
                try dsimp only at hSw
                go_simp
                try exact ifs5 HEQ.out
                try with_reducible rfl
              try simp only [Act.put, List.getElem_toArray, List.getElem_cons_succ, List.getElem_cons_zero, List.setIfInBounds_toArray, List.set_cons_zero, List.set_cons_succ]
              refine AnyBut.takeS (i := 2) (v := ?v38) rfl (by kernel_rfl) (Nat.le_of_eq (by kernel_rfl)) (by kernel_rfl) (by kernel_rfl) (fun _ _ _ h => h) (HSSa.out) (Or.inl ⟨by kernel_rfl, ?hy38⟩) ?r38
              case hy38 =>
                intro w hSw
                try dsimp only at hSw
                go_simp
                try exact ifs5 HEQ.out
                try with_reducible rfl
              try simp only [Act.put, List.getElem_toArray, List.getElem_cons_succ, List.getElem_cons_zero, List.setIfInBounds_toArray, List.set_cons_zero, List.set_cons_succ]
              refine AnyBut.takeS (i := 3) (v := ?v39) rfl (by kernel_rfl) (Nat.le_of_eq (by kernel_rfl)) (by kernel_rfl) (by kernel_rfl) (fun _ _ _ h => h) (HSSa.out) (Or.inl ⟨by kernel_rfl, ?hy39⟩) ?r39
              case hy39 =>
                intro w hSw
                try dsimp only at hSw
                go_simp
                try exact ifs5 HEQ.out
                try with_reducible rfl
              try simp only [Act.put, List.getElem_toArray, List.getElem_cons_succ, List.getElem_cons_zero, List.setIfInBounds_toArray, List.set_cons_zero, List.set_cons_succ]
              refine AnyBut.takeS (i := 4) (v := ?v40) rfl (by kernel_rfl) (Nat.le_of_eq (by kernel_rfl)) (by kernel_rfl) (by kernel_rfl) (fun _ _ _ h => h) (HSSa.out) (Or.inl ⟨by kernel_rfl, ?hy40⟩) ?r40
              case hy40 =>
                intro w hSw
                try dsimp only at hSw
                go_simp
                try exact ifs5 HEQ.out
                try with_reducible rfl
              try simp only [Act.put, List.getElem_toArray, List.getElem_cons_succ, List.getElem_cons_zero, List.setIfInBounds_toArray, List.set_cons_zero, List.set_cons_succ]
              refine AnyBut.takeS (i := 5) (v := ?v41) rfl (by kernel_rfl) (Nat.le_of_eq (by kernel_rfl)) (by kernel_rfl) (by kernel_rfl) (fun _ _ _ h => h) (HSSa.out) (Or.inl ⟨by kernel_rfl, ?hy41⟩) ?r41
              case hy41 =>
                intro w hSw
                try dsimp only at hSw
                go_simp
                try exact ifs5 HEQ.out
                try with_reducible rfl
              try simp only [Act.put, List.getElem_toArray, List.getElem_cons_succ, List.getElem_cons_zero, List.setIfInBounds_toArray, List.set_cons_zero, List.set_cons_succ]
              refine AnyBut.takeS (i := 6) (v := ?v42) rfl (by kernel_rfl) (Nat.le_of_eq (by kernel_rfl)) (by kernel_rfl) (by kernel_rfl) (fun _ _ _ h => h) (HSSa.out) (Or.inl ⟨by kernel_rfl, ?hy42⟩) ?r42
              case hy42 =>
                intro w hSw
                try dsimp only at hSw
                go_simp
                try exact ifs5 HEQ.out
                try with_reducible rfl
              try simp only [Act.put, List.getElem_toArray, List.getElem_cons_succ, List.getElem_cons_zero, List.setIfInBounds_toArray, List.set_cons_zero, List.set_cons_succ]
              refine AnyBut.takeS (i := 7) (v := ?v43) rfl (by kernel_rfl) (Nat.le_of_eq (by kernel_rfl)) (by kernel_rfl) (by kernel_rfl) (fun _ _ _ h => h) (HSSa.out) (Or.inl ⟨by kernel_rfl, ?hy43⟩) ?r43
              case hy43 =>
                intro w hSw
                try dsimp only at hSw
                go_simp
                try exact ifs5 HEQ.out
                try with_reducible rfl
              try simp only [Act.put, List.getElem_toArray, List.getElem_cons_succ, List.getElem_cons_zero, List.setIfInBounds_toArray, List.set_cons_zero, List.set_cons_succ]
              refine AnyBut.takeS (i := 8) (v := ?v44) rfl (by kernel_rfl) (Nat.le_of_eq (by kernel_rfl)) (by kernel_rfl) (by kernel_rfl) (fun _ _ _ h => h) (HSSa.out) (Or.inl ⟨by kernel_rfl, ?hy44⟩) ?r44
              case hy44 =>
                intro w hSw
                try dsimp only at hSw
                go_simp
                try exact ifs5 HEQ.out
                try with_reducible rfl
              try simp only [Act.put, List.getElem_toArray, List.getElem_cons_succ, List.getElem_cons_zero, List.setIfInBounds_toArray, List.set_cons_zero, List.set_cons_succ]
              refine AnyBut.takeS (i := 9) (v := ?v45) rfl (by kernel_rfl) (Nat.le_of_eq (by kernel_rfl)) (by kernel_rfl) (by kernel_rfl) (fun _ _ _ h => h) (HSSa.out) (Or.inl ⟨by kernel_rfl, ?hy45⟩) ?r45
              case hy45 =>
                intro w hSw
                try dsimp only at hSw
                go_simp
                try exact ifs5 HEQ.out
                try with_reducible rfl
              try simp only [Act.put, List.getElem_toArray, List.getElem_cons_succ, List.getElem_cons_zero, List.setIfInBounds_toArray, List.set_cons_zero, List.set_cons_succ]
              refine AnyBut.takeS (i := 10) (v := ?v46) rfl (by kernel_rfl) (Nat.le_of_eq (by kernel_rfl)) (by kernel_rfl) (by kernel_rfl) (fun _ _ _ h => h) (HSSa.out) (Or.inl ⟨by kernel_rfl, ?hy46⟩) ?r46
              case hy46 =>
                intro w hSw
                try dsimp only at hSw
                go_simp
                try exact ifs5 HEQ.out
                try with_reducible rfl
              try simp only [Act.put, List.getElem_toArray, List.getElem_cons_succ, List.getElem_cons_zero, List.setIfInBounds_toArray, List.set_cons_zero, List.set_cons_succ]
              refine AnyBut.takeS (i := 11) (v := ?v47) rfl (by kernel_rfl) (Nat.le_of_eq (by kernel_rfl)) (by kernel_rfl) (by kernel_rfl) (fun _ _ _ h => h) (HSSa.out) (Or.inl ⟨by kernel_rfl, ?hy47⟩) ?r47
              case hy47 =>
                intro w hSw
                try dsimp only at hSw
                go_simp
                try exact ifs5 HEQ.out
                try with_reducible rfl
              try simp only [Act.put, List.getElem_toArray, List.getElem_cons_succ, List.getElem_cons_zero, List.setIfInBounds_toArray, List.set_cons_zero, List.set_cons_succ]
              refine AnyBut.takeS (i := 12) (v := ?v48) rfl (by kernel_rfl) (Nat.le_of_eq (by kernel_rfl)) (by kernel_rfl) (by kernel_rfl) (fun _ _ _ h => h) (HSSa.out) (Or.inl ⟨by kernel_rfl, ?hy48⟩) ?r48
              case hy48 =>
                intro w hSw
                try dsimp only at hSw
                go_simp
                try exact ifs5 HEQ.out
                try with_reducible rfl
              try simp only [Act.put, List.getElem_toArray, List.getElem_cons_succ, List.getElem_cons_zero, List.setIfInBounds_toArray, List.set_cons_zero, List.set_cons_succ]
              refine AnyBut.takeS (i := 13) (v := ?v49) rfl (by kernel_rfl) (Nat.le_of_eq (by kernel_rfl)) (by kernel_rfl) (by kernel_rfl) (fun _ _ _ h => h) (HSSa.out) (Or.inl ⟨by kernel_rfl, ?hy49⟩) ?r49
              case hy49 =>
                intro w hSw
                try dsimp only at hSw
                go_simp
                try exact ifs5 HEQ.out
                try with_reducible rfl
              try simp only [Act.put, List.getElem_toArray, List.getElem_cons_succ, List.getElem_cons_zero, List.setIfInBounds_toArray, List.set_cons_zero, List.set_cons_succ]
              refine AnyBut.takeS (i := 14) (v := ?v50) rfl (by kernel_rfl) (Nat.le_of_eq (by kernel_rfl)) (by kernel_rfl) (by kernel_rfl) (fun _ _ _ h => h) (HSSa.out) (Or.inl ⟨by kernel_rfl, ?hy50⟩) ?r50
              case hy50 =>
                intro w hSw
                try dsimp only at hSw
                go_simp
                try exact ifs5 HEQ.out
                try with_reducible rfl
              try simp only [Act.put, List.getElem_toArray, List.getElem_cons_succ, List.getElem_cons_zero, List.setIfInBounds_toArray, List.set_cons_zero, List.set_cons_succ]
              refine AnyBut.one (i := 15) (by kernel_rfl) rfl (fun K hK => ?_)
              go_simp
              go_wp2_with fail
              refine (HSG.out _ _ _ (HG5.out.on HKD.out)).mono ?_
              rintro e w6 ⟨rfl, k6⟩
              have HKE := Lib.hid (HKD.out.trans k6)
              clear k6
              have HSSb : Hid ((fun w' => w'.cell? ⟨qs, 0, none⟩ = some (.int .i64 ssc) ∧ w'.cell? ⟨qs, 1, none⟩ = some (.int .i64 spo) ∧ w'.cell? ⟨qs, 2, none⟩ = some (.int .i64 (spn : Int)) ∧ w'.cell? ⟨qs, 3, none⟩ = some (.int .i64 sno) ∧ w'.cell? ⟨qs, 4, none⟩ = some (.int .i64 (snn : Int)) ∧ w'.cell? ⟨r, 0, none⟩ = some (.int .i64 (n : Int)) ∧ w'.cell? ⟨r, 1, none⟩ = some (.int .i64 gsc) ∧ w'.cell? ⟨r, 2, none⟩ = some (.int .u64 (gze : Int)) ∧ w'.cell? ⟨r, 3, none⟩ = some (.int .i64 gpo) ∧ w'.cell? ⟨r, 4, none⟩ = some (.slice a1 gpl.length c1) ∧ w'.cell? ⟨r, 5, none⟩ = some (.int .i64 gno) ∧ w'.cell? ⟨r, 6, none⟩ = some (.slice a2 gnl.length c2)) w6) := by
                obtain ⟨s0, s1, s2, s3, s4⟩ := ShBox.c (s := ⟨ssc, spo, spn, sno, snn⟩) (ShBox.same HS5.out HKE.out (fun x => x))
                obtain ⟨y0, y1, y2, y3, y4, y5, y6⟩ := HRow.c (h := ⟨gsc, gze, gpo, gpl, gno, gnl⟩) (HRow.same HX5.out HKE.out (fun x => x))
                exact Lib.hid ⟨s0, s1, s2, s3, s4, y0, y1, y2, y3, y4, y5, y6⟩
              go_wp2
              refine hK.out _ _ (HSSb.out) ?_
              clear hK K
              try simp only [Act.put, List.getElem_toArray, List.getElem_cons_succ, List.getElem_cons_zero, List.setIfInBounds_toArray, List.set_cons_zero, List.set_cons_succ]
              refine AnyBut.takeS (i := 16) (v := ?v51) rfl (by kernel_rfl) (Nat.le_of_eq (by kernel_rfl)) (by kernel_rfl) (by kernel_rfl) (fun _ _ _ h => h) (HSSb.out) (Or.inl ⟨by kernel_rfl, ?hy51⟩) ?r51
              case hy51 =>
                intro w hSw
                try dsimp only at hSw
                go_simp
                try exact ifs5 HEQ.out
                try with_reducible rfl
              try simp only [Act.put, List.getElem_toArray, List.getElem_cons_succ, List.getElem_cons_zero, List.setIfInBounds_toArray, List.set_cons_zero, List.set_cons_succ]
              refine AnyBut.takeS (i := 17) (v := ?v52) rfl (by kernel_rfl) (Nat.le_of_eq (by kernel_rfl)) (by kernel_rfl) (by kernel_rfl) (fun _ _ _ h => h) (HSSb.out) (Or.inl ⟨by kernel_rfl, ?hy52⟩) ?r52
              case hy52 =>
                intro w hSw
                try dsimp only at hSw
                go_simp
                try exact ifs5 HEQ.out
                try with_reducible rfl
              try simp only [Act.put, List.getElem_toArray, List.getElem_cons_succ, List.getElem_cons_zero, List.setIfInBounds_toArray, List.set_cons_zero, List.set_cons_succ]
              refine AnyBut.done (by kernel_rfl) ?_
              have HH6 := Lib.hid (HistBox.same HH5.out HKE.out (fun x => x))
              have HQ6 := Lib.hid (HistBox.same HQ5.out HKE.out (fun x => x))
              obtain ⟨z0, z1, z2, z3, z4, z5⟩ := HistBox.c (h := ⟨hsc, hze, hpo, hpl, hno, hnl⟩) HQ6.out
              dsimp only at z0 z1 z2 z3 z4 z5
              obtain ⟨x0, x1, x2, x3, x4, x5⟩ := HH6.out.c
              obtain ⟨f0, f1, f2, f3, f4, f5⟩ := HH6.out.f
              dsimp only [zeroH] at x0 x1 x2 x3 x4 x5
              go_wp2
              try simp only [Exit.inBlock, Exit.then]
              refine hist_end (h := ⟨hsc, hze, hpo, hpl, hno, hnl⟩) (pv := .slice b1 hpl.length d1) (nv := .slice b2 hnl.length d2) Tryd.results75 rfl rfl rfl (HH6.out.set ⟨hsc, hze, hpo, hpl, hno, hnl⟩ (.slice b1 hpl.length d1) (.slice b2 hnl.length d2)) ?_
              have hk7 := set6_kept (w6) qr (.int .i64 hsc) (.int .u64 (hze : Int)) (.int .i64 hpo) (.slice b1 hpl.length d1) (.int .i64 hno) (.slice b2 hnl.length d2)
              have hR := HR.out
              try rw [if_neg (fun e => e rfl)] at hR
              have hcc : ¬ (0 < n ∧ (⟨ssc, spo, spn, sno, snn⟩ : ShV) = ⟨gsc, gpo, gpl.length, gno, gnl.length⟩) := fun e => HQQ.out e.2
              replace hR := hR.trans (if_neg hcc)
              unfold GotTo
              rw [hR]
              refine ⟨_, _, rfl, ((HO5.out.1.kept HKE.out (fun _ _ x => x)).kept hk7 (fun j hj e => own_box (HO5.out.1.kept HKE.out (fun _ _ x => x)) HH6.out (by decide) (by rw [hj, e]))).down HN5.out.1, ((HO5.out.2.kept HKE.out (fun _ _ x => x)).kept hk7 (fun j hj e => own_box (HO5.out.2.kept HKE.out (fun _ _ x => x)) HH6.out (by decide) (by rw [hj, e]))).down HN5.out.1, ((HK5.out.step HKE.out (fun _ _ e => e.elim))).new hk7 (by have := HQ.out; omega), fun e => ?_⟩
              have hb := (HIN.out (by trivial)).keptF HKE.out
              have := hb.kept hk7 (fun e => by have := HSZ.out; have := HQ.out; omega) (fun k e1 e2 => by have h1 := HOV.out k e1; have := HQ.out; omega)
              show BrAt _ B p v bs (t + (1 + N1 + NN))
              rw [show t + (1 + N1 + NN) = t + 1 + N1 + NN by omega]
              exact this
        · have HEE := Lib.hid hE
          have q2 : ((EE : Int) == 0) = false := beqF (by omega)
          clear hE
          go_enter Tryd.func75, Tryd.ntmps75
          go_upto_region 1 with fail
          rw [← HW0.out, ← HQ.out.1]
          try rw [← HQ.out.2]
          have c0 := HP0.out.c
          go_wp2_with fail
          refine HT1.out.mono ?_
          rintro e w1 ⟨rfl, hb, hk⟩
          have HB1 := Lib.hid hb
          have HH1 := Lib.hid (HH0.out.same hk (fun e => by have := HSZ.out; have := HQ.out; omega))
          have HK1 := Lib.hid ((show Kept (fun k => k = p) w w0 from keptTo HK0.out).trans hk)
          have HX1 := Lib.hid (HX0.out.same hk (fun e => HSZ.out.2.2.2.2.1 e))
          have HO1 := Lib.hid (And.intro (HO0.out.1.kept hk (fun j hj e => own_box HO0.out.1 HRB.out.box (by decide) (by rw [hj, e]))) (HO0.out.2.kept hk (fun j hj e => own_box HO0.out.2 HRB.out.box (by decide) (by rw [hj, e]))))
          have HTT1 := Lib.hid (HT0.out.keptS hk (by have := HSZ.out; omega))
          have HP1 := Lib.hid (hk.same HP0.out (fun e => by have := HSZ.out; have := HQ.out; omega))
          have HS1 := Lib.hid hk.size
          clear hb hk c0
          have c0 := PtrBox.c HP1.out
          go_wp2_with fail
          refine (HGS.out w1 HB1.out (by have := HSZ.out; have := HS1.out; omega) HTT1.out).mono ?_
          rintro e w2 ⟨rfl, hb, hk⟩
          obtain ⟨w3, hw3⟩ : ∃ w', w' = w2.alloc (.cells #[.int .i64 ssc, .int .i64 spo, .int .i64 (spn : Int), .int .i64 sno, .int .i64 (snn : Int)] 101) := ⟨_, rfl⟩
          have k3 : Kept (fun _ => False) w2 w3 := by rw [hw3]; exact (Kept.refl _ _).alloc _
          have HW3 := Lib.hid hw3
          have hk3 : Kept (fun k => k = p) w1 w3 := hk.step k3 (fun _ _ e => e.elim)
          obtain ⟨qs, hqs⟩ : ∃ q, q = w2.heap.size := ⟨_, rfl⟩
          have HS3 := Lib.hid (show ShBox w3 qs ⟨ssc, spo, spn, sno, snn⟩ by rw [hw3, hqs]; exact heap_alloc_new w2 _)
          have HB3 := Lib.hid (hb.keptF k3)
          have HH3 := Lib.hid (HistBox.same HH1.out hk3 (fun e => by have := HSZ.out; have := HQ.out; omega))
          have HK3 := Lib.hid (HK1.out.trans hk3)
          have HX3 := Lib.hid (HRow.same HX1.out hk3 (fun e => HSZ.out.2.2.2.2.1 e))
          have HO3 := Lib.hid (And.intro (HO1.out.1.kept hk3 (fun j hj e => own_box HO1.out.1 HB1.out.box (by decide) (by rw [hj, e]))) (HO1.out.2.kept hk3 (fun j hj e => own_box HO1.out.2 HB1.out.box (by decide) (by rw [hj, e]))))
          have HTT3 := Lib.hid (HTT1.out.keptS hk3 (by have := HSZ.out; omega))
          have HP3 := Lib.hid (hk3.same HP1.out (fun e => by have := HSZ.out; have := HQ.out; omega))
          have HS3s := Lib.hid (show w1.heap.size ≤ w3.heap.size from hk3.size)
          have HQS := Lib.hid (And.intro hqs hk.size)
          clear hb hk hw3 k3 hk3 c0
          go_upto_region 7 with fail
          rw [← HW3.out, ← hqs]
          clear hqs
          have c0 := PtrBox.c HP3.out
          obtain ⟨s0, s1, s2, s3, s4⟩ := ShBox.c (s := ⟨ssc, spo, spn, sno, snn⟩) HS3.out
          dsimp only at s0 s1 s2 s3 s4
          have hmf : ∀ (fn : Fn) (first cap : Array Value) (w : World), (Instr.makeFunc fn first cap).run Tryd.prog w = .ok (.func fn first cap) w := fun _ _ _ _ => rfl
          go_wp2_with fail
          refine (HGC.out w3 rb (by have := HSZ.out; have := HS1.out; have := HS3s.out; omega) ⟨HB3.out, by have := HSZ.out; have := HS1.out; have := HS3s.out; omega, HTT3.out, HP3.out, by have := HSZ.out; have := HS1.out; have := HS3s.out; have := HQ.out; omega, fun k e => by have := HOV.out k e; have := HSZ.out; have := HS1.out; have := HS3s.out; omega, by have := HSZ.out; have := HS1.out; have := HS3s.out; omega⟩).mono ?_
          rintro e w4 ⟨pv, nv, rfl, o1, o2, k4, hin⟩
          obtain ⟨b1, d1, rfl⟩ := o1.slice
          obtain ⟨b2, d2, rfl⟩ := o2.slice
          unfold histV
          dsimp only at o1 o2 hin ⊢
          obtain ⟨w5, hw5⟩ : ∃ w', w' = w4.alloc (.cells #[.int .i64 hsc, .int .u64 (hze : Int), .int .i64 hpo, .slice b1 hpl.length d1, .int .i64 hno, .slice b2 hnl.length d2] 62) := ⟨_, rfl⟩
          have k5 : Kept (fun _ => False) w4 w5 := by rw [hw5]; exact (Kept.refl _ _).alloc _
          have HW5 := Lib.hid hw5
          obtain ⟨qh, hqh⟩ : ∃ q, q = w4.heap.size := ⟨_, rfl⟩
          have HQ5 := Lib.hid (show HistBox w5 qh ⟨hsc, hze, hpo, hpl, hno, hnl⟩ (.slice b1 hpl.length d1) (.slice b2 hnl.length d2) by rw [hw5, hqh]; exact heap_alloc_new w4 _)
          have hk5 : Kept (fun k => k = p) w3 w5 := k4.step k5 (fun _ _ e => e.elim)
          have HO5 := Lib.hid (And.intro (o1.kept k5 (fun _ _ x => x)) (o2.kept k5 (fun _ _ x => x)))
          have HIN := Lib.hid (fun e => (hin e).br.keptF k5 : _ → BrAt w5 B p v bs (t + 1 + N1 + NN))
          have HH5 := Lib.hid (HistBox.same HH3.out hk5 (fun e => by have := HSZ.out; have := HQ.out; omega))
          have HS5 := Lib.hid (ShBox.same HS3.out hk5 (fun e => by have := HSZ.out; have := HQ.out; have := HQS.out; have := HS1.out; omega))
          have HK5 := Lib.hid (HK3.out.trans hk5)
          have HX5 := Lib.hid (HRow.same HX3.out hk5 (fun e => HSZ.out.2.2.2.2.1 e))
          have HG5 := Lib.hid (show HistAt w5 ⟨gsc, gze, gpo, gpl, gno, gnl⟩ (.slice a1 gpl.length c1) (.slice a2 gnl.length c2) from ⟨(HO3.out.1.kept hk5 (fun j hj e => own_box HO3.out.1 HB3.out.box (by decide) (by rw [hj, e]))).at_, (HO3.out.2.kept hk5 (fun j hj e => own_box HO3.out.2 HB3.out.box (by decide) (by rw [hj, e]))).at_⟩)
          have HN5 := Lib.hid (show w.heap.size ≤ w3.heap.size ∧ qh ≠ qr by have := HSZ.out; have := HS1.out; have := HS3s.out; have := k4.size; have := HQ.out; omega)
          clear o1 o2 k4 hin hw5 k5 hk5 s0 s1 s2 s3 s4 c0
          go_upto_region 10 with fail
          rw [← HW5.out, ← hqh]
          clear hqh
          have hkd := (Kept.refl (fun _ => False) w5).drew
          have HSSa : Hid ((fun w' => w'.cell? ⟨qs, 0, none⟩ = some (.int .i64 ssc) ∧ w'.cell? ⟨qs, 1, none⟩ = some (.int .i64 spo) ∧ w'.cell? ⟨qs, 2, none⟩ = some (.int .i64 (spn : Int)) ∧ w'.cell? ⟨qs, 3, none⟩ = some (.int .i64 sno) ∧ w'.cell? ⟨qs, 4, none⟩ = some (.int .i64 (snn : Int)) ∧ w'.cell? ⟨r, 0, none⟩ = some (.int .i64 (n : Int)) ∧ w'.cell? ⟨r, 1, none⟩ = some (.int .i64 gsc) ∧ w'.cell? ⟨r, 2, none⟩ = some (.int .u64 (gze : Int)) ∧ w'.cell? ⟨r, 3, none⟩ = some (.int .i64 gpo) ∧ w'.cell? ⟨r, 4, none⟩ = some (.slice a1 gpl.length c1) ∧ w'.cell? ⟨r, 5, none⟩ = some (.int .i64 gno) ∧ w'.cell? ⟨r, 6, none⟩ = some (.slice a2 gnl.length c2)) w5.drew) := by
            obtain ⟨s0, s1, s2, s3, s4⟩ := ShBox.c (s := ⟨ssc, spo, spn, sno, snn⟩) (ShBox.same HS5.out hkd (fun x => x))
            obtain ⟨y0, y1, y2, y3, y4, y5, y6⟩ := HRow.c (h := ⟨gsc, gze, gpo, gpl, gno, gnl⟩) (HRow.same HX5.out hkd (fun x => x))
            exact Lib.hid ⟨s0, s1, s2, s3, s4, y0, y1, y2, y3, y4, y5, y6⟩
          have HKD := Lib.hid hkd
          clear hkd
          refine AnyBut.start (S := fun w' => w'.cell? ⟨qs, 0, none⟩ = some (.int .i64 ssc) ∧ w'.cell? ⟨qs, 1, none⟩ = some (.int .i64 spo) ∧ w'.cell? ⟨qs, 2, none⟩ = some (.int .i64 (spn : Int)) ∧ w'.cell? ⟨qs, 3, none⟩ = some (.int .i64 sno) ∧ w'.cell? ⟨qs, 4, none⟩ = some (.int .i64 (snn : Int)) ∧ w'.cell? ⟨r, 0, none⟩ = some (.int .i64 (n : Int)) ∧ w'.cell? ⟨r, 1, none⟩ = some (.int .i64 gsc) ∧ w'.cell? ⟨r, 2, none⟩ = some (.int .u64 (gze : Int)) ∧ w'.cell? ⟨r, 3, none⟩ = some (.int .i64 gpo) ∧ w'.cell? ⟨r, 4, none⟩ = some (.slice a1 gpl.length c1) ∧ w'.cell? ⟨r, 5, none⟩ = some (.int .i64 gno) ∧ w'.cell? ⟨r, 6, none⟩ = some (.slice a2 gnl.length c2)) (k := 18) (by kernel_rfl) ?_
          refine AnyBut.takeS (i := 0) (v := ?v53) rfl (by kernel_rfl) (Nat.le_of_eq (by kernel_rfl)) (by kernel_rfl) (by kernel_rfl) (fun _ _ _ h => h) (HSSa.out) (Or.inl ⟨by kernel_rfl, ?hy53⟩) ?r53
          case hy53 =>
            intro w hSw
            try dsimp only at hSw
            go_simp
            try with_reducible rfl
          try simp only [Act.put, List.getElem_toArray, List.getElem_cons_zero, List.setIfInBounds_toArray, List.set_cons_zero, List.set_cons_succ]
          refine AnyBut.takeS (i := 1) (v := ?v54) rfl (by kernel_rfl) (Nat.le_of_eq (by kernel_rfl)) (by kernel_rfl) (by kernel_rfl) (fun _ _ _ h => h) (HSSa.out) (Or.inl ⟨by kernel_rfl, ?hy54⟩) ?r54
          case hy54 =>
            intro w hSw
            try dsimp only at hSw
            go_simp
            try with_reducible rfl
          try simp only [Act.put, List.getElem_toArray, List.getElem_cons_succ, List.getElem_cons_zero, List.setIfInBounds_toArray, List.set_cons_zero, List.set_cons_succ]
          refine AnyBut.takeS (i := 2) (v := ?v55) rfl (by kernel_rfl) (Nat.le_of_eq (by kernel_rfl)) (by kernel_rfl) (by kernel_rfl) (fun _ _ _ h => h) (HSSa.out) (Or.inl ⟨by kernel_rfl, ?hy55⟩) ?r55
          case hy55 =>
            intro w hSw
            try dsimp only at hSw
            go_simp
            try with_reducible rfl
          try simp only [Act.put, List.getElem_toArray, List.getElem_cons_succ, List.getElem_cons_zero, List.setIfInBounds_toArray, List.set_cons_zero, List.set_cons_succ]
          refine AnyBut.takeS (i := 3) (v := undef) rfl (by kernel_rfl) (Nat.le_of_eq (by kernel_rfl)) (by kernel_rfl) (by kernel_rfl) (fun _ _ _ h => h) (HSSa.out) (Or.inr ⟨by kernel_rfl, rfl⟩) ?r56
          try simp only [Act.put, List.getElem_toArray, List.getElem_cons_succ, List.getElem_cons_zero, List.setIfInBounds_toArray, List.set_cons_zero, List.set_cons_succ]
          refine AnyBut.takeS (i := 4) (v := undef) rfl (by kernel_rfl) (Nat.le_of_eq (by kernel_rfl)) (by kernel_rfl) (by kernel_rfl) (fun _ _ _ h => h) (HSSa.out) (Or.inr ⟨by kernel_rfl, rfl⟩) ?r57
          try simp only [Act.put, List.getElem_toArray, List.getElem_cons_succ, List.getElem_cons_zero, List.setIfInBounds_toArray, List.set_cons_zero, List.set_cons_succ]
          refine AnyBut.takeS (i := 5) (v := undef) rfl (by kernel_rfl) (Nat.le_of_eq (by kernel_rfl)) (by kernel_rfl) (by kernel_rfl) (fun _ _ _ h => h) (HSSa.out) (Or.inr ⟨by kernel_rfl, rfl⟩) ?r58
          try simp only [Act.put, List.getElem_toArray, List.getElem_cons_succ, List.getElem_cons_zero, List.setIfInBounds_toArray, List.set_cons_zero, List.set_cons_succ]
          refine AnyBut.takeS (i := 6) (v := undef) rfl (by kernel_rfl) (Nat.le_of_eq (by kernel_rfl)) (by kernel_rfl) (by kernel_rfl) (fun _ _ _ h => h) (HSSa.out) (Or.inr ⟨by kernel_rfl, rfl⟩) ?r59
          try simp only [Act.put, List.getElem_toArray, List.getElem_cons_succ, List.getElem_cons_zero, List.setIfInBounds_toArray, List.set_cons_zero, List.set_cons_succ]
          refine AnyBut.takeS (i := 7) (v := undef) rfl (by kernel_rfl) (Nat.le_of_eq (by kernel_rfl)) (by kernel_rfl) (by kernel_rfl) (fun _ _ _ h => h) (HSSa.out) (Or.inr ⟨by kernel_rfl, rfl⟩) ?r60
          try simp only [Act.put, List.getElem_toArray, List.getElem_cons_succ, List.getElem_cons_zero, List.setIfInBounds_toArray, List.set_cons_zero, List.set_cons_succ]
          refine AnyBut.takeS (i := 8) (v := ?v61) rfl (by kernel_rfl) (Nat.le_of_eq (by kernel_rfl)) (by kernel_rfl) (by kernel_rfl) (fun _ _ _ h => h) (HSSa.out) (Or.inl ⟨by kernel_rfl, ?hy61⟩) ?r61
          case hy61 =>
            intro w hSw
            try dsimp only at hSw
            go_simp
            try with_reducible rfl
          try simp only [Act.put, List.getElem_toArray, List.getElem_cons_succ, List.getElem_cons_zero, List.setIfInBounds_toArray, List.set_cons_zero, List.set_cons_succ]
          refine AnyBut.takeS (i := 9) (v := ?v62) rfl (by kernel_rfl) (Nat.le_of_eq (by kernel_rfl)) (by kernel_rfl) (by kernel_rfl) (fun _ _ _ h => h) (HSSa.out) (Or.inl ⟨by kernel_rfl, ?hy62⟩) ?r62
          case hy62 =>
            intro w hSw
            try dsimp only at hSw
            go_simp
            try with_reducible rfl
          try simp only [Act.put, List.getElem_toArray, List.getElem_cons_succ, List.getElem_cons_zero, List.setIfInBounds_toArray, List.set_cons_zero, List.set_cons_succ]
          refine AnyBut.takeS (i := 10) (v := undef) rfl (by kernel_rfl) (Nat.le_of_eq (by kernel_rfl)) (by kernel_rfl) (by kernel_rfl) (fun _ _ _ h => h) (HSSa.out) (Or.inr ⟨by kernel_rfl, rfl⟩) ?r63
          try simp only [Act.put, List.getElem_toArray, List.getElem_cons_succ, List.getElem_cons_zero, List.setIfInBounds_toArray, List.set_cons_zero, List.set_cons_succ]
          refine AnyBut.takeS (i := 11) (v := undef) rfl (by kernel_rfl) (Nat.le_of_eq (by kernel_rfl)) (by kernel_rfl) (by kernel_rfl) (fun _ _ _ h => h) (HSSa.out) (Or.inr ⟨by kernel_rfl, rfl⟩) ?r64
          try simp only [Act.put, List.getElem_toArray, List.getElem_cons_succ, List.getElem_cons_zero, List.setIfInBounds_toArray, List.set_cons_zero, List.set_cons_succ]
          refine AnyBut.takeS (i := 12) (v := undef) rfl (by kernel_rfl) (Nat.le_of_eq (by kernel_rfl)) (by kernel_rfl) (by kernel_rfl) (fun _ _ _ h => h) (HSSa.out) (Or.inr ⟨by kernel_rfl, rfl⟩) ?r65
          try simp only [Act.put, List.getElem_toArray, List.getElem_cons_succ, List.getElem_cons_zero, List.setIfInBounds_toArray, List.set_cons_zero, List.set_cons_succ]
          refine AnyBut.takeS (i := 13) (v := undef) rfl (by kernel_rfl) (Nat.le_of_eq (by kernel_rfl)) (by kernel_rfl) (by kernel_rfl) (fun _ _ _ h => h) (HSSa.out) (Or.inr ⟨by kernel_rfl, rfl⟩) ?r66
          try simp only [Act.put, List.getElem_toArray, List.getElem_cons_succ, List.getElem_cons_zero, List.setIfInBounds_toArray, List.set_cons_zero, List.set_cons_succ]
          refine AnyBut.takeS (i := 14) (v := undef) rfl (by kernel_rfl) (Nat.le_of_eq (by kernel_rfl)) (by kernel_rfl) (by kernel_rfl) (fun _ _ _ h => h) (HSSa.out) (Or.inr ⟨by kernel_rfl, rfl⟩) ?r67
          try simp only [Act.put, List.getElem_toArray, List.getElem_cons_succ, List.getElem_cons_zero, List.setIfInBounds_toArray, List.set_cons_zero, List.set_cons_succ]
          refine AnyBut.takeS (i := 15) (v := undef) rfl (by kernel_rfl) (Nat.le_of_eq (by kernel_rfl)) (by kernel_rfl) (by kernel_rfl) (fun _ _ _ h => h) (HSSa.out) (Or.inr ⟨by kernel_rfl, rfl⟩) ?r68
          try simp only [Act.put, List.getElem_toArray, List.getElem_cons_succ, List.getElem_cons_zero, List.setIfInBounds_toArray, List.set_cons_zero, List.set_cons_succ]
          refine AnyBut.takeS (i := 16) (v := undef) rfl (by kernel_rfl) (Nat.le_of_eq (by kernel_rfl)) (by kernel_rfl) (by kernel_rfl) (fun _ _ _ h => h) (HSSa.out) (Or.inr ⟨by kernel_rfl, rfl⟩) ?r69
          try simp only [Act.put, List.getElem_toArray, List.getElem_cons_succ, List.getElem_cons_zero, List.setIfInBounds_toArray, List.set_cons_zero, List.set_cons_succ]
          refine AnyBut.takeS (i := 17) (v := ?v70) rfl (by kernel_rfl) (Nat.le_of_eq (by kernel_rfl)) (by kernel_rfl) (by kernel_rfl) (fun _ _ _ h => h) (HSSa.out) (Or.inl ⟨by kernel_rfl, ?hy70⟩) ?r70
          case hy70 =>
            intro w hSw
            try dsimp only at hSw
            go_simp
            try with_reducible rfl
          try simp only [Act.put, List.getElem_toArray, List.getElem_cons_succ, List.getElem_cons_zero, List.setIfInBounds_toArray, List.set_cons_zero, List.set_cons_succ]
          refine AnyBut.done (by kernel_rfl) ?_
          obtain ⟨wd, hwd⟩ : ∃ w', w' = w5.drew := ⟨_, rfl⟩
          rw [← hwd]
          have HKE := Lib.hid (show Kept (fun _ => False) w5 wd by rw [hwd]; exact HKD.out)
          clear hwd
          have HH6 := Lib.hid (HistBox.same HH5.out HKE.out (fun x => x))
          have HQ6 := Lib.hid (HistBox.same HQ5.out HKE.out (fun x => x))
          obtain ⟨z0, z1, z2, z3, z4, z5⟩ := HistBox.c (h := ⟨hsc, hze, hpo, hpl, hno, hnl⟩) HQ6.out
          dsimp only at z0 z1 z2 z3 z4 z5
          obtain ⟨x0, x1, x2, x3, x4, x5⟩ := HH6.out.c
          obtain ⟨f0, f1, f2, f3, f4, f5⟩ := HH6.out.f
          dsimp only [zeroH] at x0 x1 x2 x3 x4 x5
          go_wp2
          try simp only [Exit.inBlock, Exit.then]
          refine hist_end (h := ⟨hsc, hze, hpo, hpl, hno, hnl⟩) (pv := .slice b1 hpl.length d1) (nv := .slice b2 hnl.length d2) Tryd.results75 rfl rfl rfl (HH6.out.set ⟨hsc, hze, hpo, hpl, hno, hnl⟩ (.slice b1 hpl.length d1) (.slice b2 hnl.length d2)) ?_
          have hk7 := set6_kept (wd) qr (.int .i64 hsc) (.int .u64 (hze : Int)) (.int .i64 hpo) (.slice b1 hpl.length d1) (.int .i64 hno) (.slice b2 hnl.length d2)
          have hR := HR.out
          rw [if_pos HEE.out] at hR
          unfold GotTo
          rw [hR]
          refine ⟨_, _, rfl, ((HO5.out.1.kept HKE.out (fun _ _ x => x)).kept hk7 (fun j hj e => own_box (HO5.out.1.kept HKE.out (fun _ _ x => x)) HH6.out (by decide) (by rw [hj, e]))).down HN5.out.1, ((HO5.out.2.kept HKE.out (fun _ _ x => x)).kept hk7 (fun j hj e => own_box (HO5.out.2.kept HKE.out (fun _ _ x => x)) HH6.out (by decide) (by rw [hj, e]))).down HN5.out.1, ((HK5.out.step HKE.out (fun _ _ e => e.elim))).new hk7 (by have := HQ.out; omega), fun e => ?_⟩
          first | exact absurd e HEE.out | exact absurd (show (3 : Nat) = 0 from e) (by decide)
      · have hR := gotH_C (n := n) (g := g) hA hb (by rw [hd1, ← hSH]; exact he1)
        rw [hd1, ← hSH] at hR
        have HRR := Lib.hid hR
        obtain ⟨⟨ssc, spo, spn, sno, snn⟩, N1, E1⟩ := SH
        dsimp only [ShV.val] at HGS HRR he1
        have q1 : ((E1 : Int) != 0) = true := bneT (by omega)
        have HNE := Lib.hid he1
        clear HR HT hrow ho1 ho2 hgo hw0 k0 hlt hft hbase hdl hsz0 HB0 hov hrb hqr hgpl hgnl hl hB hB0 hrp hA hb hnb hSH hd1 hfit he1 hR
        go_enter Tryd.func75, Tryd.ntmps75
        go_upto_region 1 with fail
        rw [← HW0.out, ← HQ.out.1]
        try rw [← HQ.out.2]
        have c0 := HP0.out.c
        go_wp2_with fail
        refine HT1.out.mono ?_
        rintro e w1 ⟨rfl, hb, hk⟩
        have HB1 := Lib.hid hb
        have HH1 := Lib.hid (HH0.out.same hk (fun e => by have := HSZ.out; have := HQ.out; omega))
        have HK1 := Lib.hid ((show Kept (fun k => k = p) w w0 from keptTo HK0.out).trans hk)
        have HX1 := Lib.hid (HX0.out.same hk (fun e => HSZ.out.2.2.2.2.1 e))
        have HO1 := Lib.hid (And.intro (HO0.out.1.kept hk (fun j hj e => own_box HO0.out.1 HRB.out.box (by decide) (by rw [hj, e]))) (HO0.out.2.kept hk (fun j hj e => own_box HO0.out.2 HRB.out.box (by decide) (by rw [hj, e]))))
        have HTT1 := Lib.hid (HT0.out.keptS hk (by have := HSZ.out; omega))
        have HP1 := Lib.hid (hk.same HP0.out (fun e => by have := HSZ.out; have := HQ.out; omega))
        have HS1 := Lib.hid hk.size
        clear hb hk c0
        have c0 := PtrBox.c HP1.out
        go_wp2_with fail
        refine (HGS.out w1 HB1.out (by have := HSZ.out; have := HS1.out; omega) HTT1.out).mono ?_
        rintro e w2 ⟨rfl, hb, hk⟩
        obtain ⟨w3, hw3⟩ : ∃ w', w' = w2.alloc (.cells #[.int .i64 ssc, .int .i64 spo, .int .i64 (spn : Int), .int .i64 sno, .int .i64 (snn : Int)] 101) := ⟨_, rfl⟩
        have k3 : Kept (fun _ => False) w2 w3 := by rw [hw3]; exact (Kept.refl _ _).alloc _
        have HW3 := Lib.hid hw3
        have HH3 := Lib.hid (HistBox.same (HistBox.same HH1.out hk (fun e => by have := HSZ.out; have := HQ.out; omega)) k3 (fun x => x))
        have HK3 := Lib.hid ((HK1.out.trans hk).step k3 (fun _ _ e => e.elim))
        clear hb hk hw3 k3
        go_upto_region 7 with fail
        rw [← HW3.out]
        obtain ⟨x0, x1, x2, x3, x4, x5⟩ := HH3.out.c
        obtain ⟨f0, f1, f2, f3, f4, f5⟩ := HH3.out.f
        dsimp only [zeroH] at x0 x1 x2 x3 x4 x5
        go_wp2
        try simp only [Exit.inBlock, Exit.then]
        refine hist_end (h := zeroH) (pv := .slice none 0 0) (nv := .slice none 0 0) Tryd.results75 rfl rfl rfl (HH3.out.set zeroH (.slice none 0 0) (.slice none 0 0)) ?_
        rw [HRR.out]
        exact ⟨_, _, rfl, OwnU.nil _ _, OwnU.nil _ _, (HK3.out).new (set6_kept _ _ _ _ _ _ _ _) (by have := HQ.out; omega), fun e => absurd e HNE.out⟩
end Go.Proofs.YtjpnfadmblmjbaaDoor
