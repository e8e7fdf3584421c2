/- Texts put together: Z19, VX, Z20, Z21, Z22. -/
import Derived.Test.YtjpnfadmblmjbaaDoorZz9
import Derived.Test.YtjpnfadmblmjbaaDoorZz6
import Derived.Test.YtjpnfadmblmjbaaDoorZz1
import Derived.Test.YtjpnfadmblmjbaaDoorZz5
/- package histbits: Get. -/
namespace Go.Proofs.YtjpnfadmblmjbaaDoor
open Go.RowKit
attribute [local go_sem ↓] Go.wp_at_zero Go.wp_at_succ

/-- A reader and a row, both behind W. -/
structure HRd (W w : World) (p r : Nat) (v : Value) (bs : List Bool) (t n : Nat) (h : HistV) (pv nv : Value) : Prop where
  br : BrAt w W.heap.size p v bs t
  row : HRow w r n h pv nv
  mp : Mine W w 28 pv (uvals h.pl)
  mn : Mine W w 28 nv (uvals h.nl)
  rb : W.heap.size ≤ r
theorem mine_own {W w : World} {v : Value} {l : List Nat} (h : Mine W w 28 v (uvals l)) : OwnU W w v l := by
  have := h.own
  rw [uvals_length] at this
  exact this
section
variable {W w w' : World} {p r n t : Nat} {v pv nv : Value} {bs : List Bool} {h : HistV}
theorem HRd.ne (x : HRd W w p r v bs t n h pv nv) : r ≠ p ∧ v.ownBlock ≠ some r := ⟨block_ne x.row x.br.box (by decide), own_box x.br.owns x.row (by decide)⟩
theorem HRd.on (x : HRd W w p r v bs t n h pv nv) (k : Kept (fun _ => False) w w') : HRd W w' p r v bs t n h pv nv := ⟨x.br.keptF k, x.row.same k (fun x => x), x.mp.on k, x.mn.on k, x.rb⟩
theorem HRd.gone {w1 : World} {h2 : HistV} {t2 : Nat} (x : HRd W w p r v bs t n h pv nv) (hb : BrAt w1 W.heap.size p v bs t2) (k : Kept (fun k => k = p) w w1) (g : GoneOn r n h h2 pv nv w1 w') : ∃ p' n', HRd W w' p r v bs t2 (n + 1) h2 p' n' ∧ Kept (fun k => k = p ∨ k = r) w w' ∧ (∀ k, p'.ownBlock = some k ∨ n'.ownBlock = some k → w1.heap.size ≤ k) := by
  obtain ⟨p', n', w2, hr, m1, m2, hr1, hk⟩ := g
  have k0 : Kept (fun _ => False) W w1 := x.mp.kept.newer k (fun j e => by rw [e]; exact x.br.base)
  have n1 := (m1.down k0).keptS hk (fun k e e2 => mine_hrow m1 hr1 (by rw [e, e2])) (fun k e => by rw [e]; exact x.rb)
  have n2 := (m2.down k0).keptS hk (fun k e e2 => mine_hrow m2 hr1 (by rw [e, e2])) (fun k e => by rw [e]; exact x.rb)
  refine ⟨p', n', ⟨(hb.keptF m1.kept).kept hk (fun e => x.ne.1 e.symm) (fun k e e2 => x.ne.2 (by rw [e, e2])), hr, n1, n2, x.rb⟩, ?_⟩
  refine ⟨(((k.mono (fun _ _ e => .inl e)).step m1.kept (fun _ _ e => e.elim)).step hk (fun _ _ e => .inr e)), ?_⟩
  rintro j (e | e)
  · exact (ownsRow_lt m1.own e).2
  · exact (ownsRow_lt m2.own e).2
end
/-- What Get answers and leaves. -/
def GetTo (W w : World) (p r : Nat) (v : Value) (bs : List Bool) (t n : Nat) (R : HistV × Nat × Nat) (e : Ending) (w' : World) : Prop :=
  (R.2.2 ≠ 0 ∧ e = .returned (.tuple #[histV zeroH (.slice none 0 0) (.slice none 0 0), .int .i64 (R.2.2 : Int)]) ∧ Kept (fun _ => False) w w') ∨
  (R.2.2 = 0 ∧ ∃ pv nv, e = .returned (.tuple #[histV R.1 pv nv, .int .i64 0]) ∧ OwnU w w' pv R.1.pl ∧ OwnU w w' nv R.1.nl ∧ ∃ p' n', HRd W w' p r v bs (t + R.2.1) (n + 1) R.1 p' n' ∧ Kept (fun k => k = p ∨ k = r) w w' ∧ (∀ k, pv.ownBlock = some k → p'.ownBlock ≠ some k ∧ n'.ownBlock ≠ some k))

set_option maxHeartbeats 8000000 in
set_option maxRecDepth 100000 in
theorem hget_any (W w : World) (p r n : Nat) (v gp gn : Value) (g : HistV) (bs : List Bool) (t : Nat) (X : HRd W w p r v bs t n g gp gn) (hB0 : 0 < W.heap.size) (hl : bs.length ≤ 100000000) (HT : ClassTab W)
    (hgo : g.ok) (hgpl : g.pl.length ≤ 160) (hgnl : g.nl.length ≤ 160) (hn : n ≤ 100000) (R : HistV × Nat × Nat) (hR : R = gotH n g (bs.drop t)) (hRpl : R.1.pl.length ≤ 1000000) (hRnl : R.1.nl.length ≤ 1000000) :
    Calls Tryd.prog 43 #[.pointer (some ⟨r, 0, none⟩), .pointer (some ⟨p, 0, none⟩)] w (GetTo W w p r v bs t n R) := by
  obtain ⟨ao, vc, rfl⟩ := ownsRow_slice X.br.owns
  have hsz := X.mp.kept.size
  have hlt := X.br.lt
  obtain ⟨w0, hw0⟩ : ∃ w0, w0 = w.alloc (.cells #[.int .i64 0, .int .u64 0, .int .i64 0, .slice none 0 0, .int .i64 0, .slice none 0 0] 62) := ⟨_, rfl⟩
  have k0 : Kept (fun _ => False) w w0 := by rw [hw0]; exact (Kept.refl _ _).alloc _
  have HH0 := Lib.hid (show HistBox w0 w.heap.size zeroH (.slice none 0 0) (.slice none 0 0) by rw [hw0]; exact heap_alloc_new w _)
  have hs0 : w0.heap.size = w.heap.size + 1 := by rw [hw0]; simp
  have HW0 := Lib.hid hw0
  have HX0 := Lib.hid (X.on k0)
  have HK0 := Lib.hid k0
  have hcopy := HX0.out.br.copy (by have := k0.size; omega)
  obtain ⟨w1, hw1⟩ : ∃ w1, w1 = w0.alloc (.cells #[.slice ao (packB bs).length vc, .int .i64 bs.length, .int .i64 t] 88) := ⟨_, rfl⟩
  have k1 : Kept (fun _ => False) w0 w1 := by rw [hw1]; exact (Kept.refl _ _).alloc _
  rw [← hw1] at hcopy
  have HW1 := Lib.hid hw1
  have HX1 := Lib.hid (HX0.out.on k1)
  have HH1 := Lib.hid (HH0.out.same k1 (fun x => x))
  have HK1 := Lib.hid (k0.trans k1)
  have hs1 : w1.heap.size = w.heap.size + 2 := by rw [hw1]; simp [hs0]
  obtain ⟨qr, hqr⟩ : ∃ q, q = w.heap.size := ⟨_, rfl⟩
  obtain ⟨qc, hqc⟩ : ∃ q, q = w0.heap.size := ⟨_, rfl⟩
  rw [← hqr] at HH0 HH1
  rw [← hqc] at hcopy
  have HQ := Lib.hid (And.intro hqr (And.intro hqc (And.intro hs0 (And.intro hs1 (And.intro hsz hlt)))))
  have HNX := Lib.hid (hnext_any W W.heap.size qc r n _ gp gn g bs t w1 hcopy (by omega) hB0 hl (HT.kept HX1.out.mp.kept) HX1.out.row (mine_own HX1.out.mp) (mine_own HX1.out.mn) hgo hgpl hgnl (by have := (Array.getElem?_eq_some_iff.1 HX0.out.row).1; omega))
  rw [← hR] at HNX
  have hov : ∀ k, (Value.slice ao (packB bs).length vc).ownBlock = some k → k < w.heap.size := fun k e => (ownsRow_lt X.br.owns e).1
  have HOV := Lib.hid hov
  have HLE := Lib.hid (And.intro hRpl hRnl)
  have HNN := Lib.hid (show n ≤ 1000000 by omega)
  have c0 := HX0.out.br.c0
  have c1 := HX0.out.br.c1
  have c2 := HX0.out.br.c2
  obtain ⟨vn, hvn⟩ : ∃ k, k = (packB bs).length := ⟨_, rfl⟩
  obtain ⟨bl, hbl⟩ : ∃ k, k = bs.length := ⟨_, rfl⟩
  rw [← hvn] at HW1 HX0 HX1 HNX HOV c0 ⊢
  rw [← hbl] at HW1 c1
  have HBL := Lib.hid (And.intro hvn hbl)
  obtain ⟨⟨hsc, hze, hpo, hpl, hno, hnl⟩, NN, EE⟩ := R
  dsimp only at HLE
  clear X hB0 hl HT hgo hgpl hgnl hn hR hRpl hRnl hsz hlt hw0 k0 hs0 hw1 k1 hs1 hcopy hov hvn hbl hqr
  by_cases hE : EE = 0
  · subst hE
    go_enter Tryd.func43, Tryd.ntmps43
    go_upto_region 1 with fail
    rw [← HW0.out, ← HQ.out.1]
    go_upto_region 2 with fail
    rw [← HW1.out, ← hqc]
    clear hqc c0 c1 c2
    go_wp2_with fail
    refine HNX.out.mono ?_
    rintro e w2 ⟨pv, nv, rfl, o1, o2, k2, hin⟩
    obtain ⟨b1, d1, rfl⟩ := o1.slice
    obtain ⟨b2, d2, rfl⟩ := o2.slice
    unfold histV
    dsimp only at o1 o2 hin ⊢
    obtain ⟨w3, hw3⟩ : ∃ w', w' = w2.alloc (.cells #[.int .i64 hsc, .int .u64 (hze : Int), .int .i64 hpo, .slice b1 hpl.length d1, .int .i64 hno, .slice b2 hnl.length d2] 62) := ⟨_, rfl⟩
    have k3 : Kept (fun _ => False) w2 w3 := by rw [hw3]; exact (Kept.refl _ _).alloc _
    have HW3 := Lib.hid hw3
    obtain ⟨qh, hqh⟩ : ∃ q, q = w2.heap.size := ⟨_, rfl⟩
    have HQ3 := Lib.hid (show HistBox w3 qh ⟨hsc, hze, hpo, hpl, hno, hnl⟩ (.slice b1 hpl.length d1) (.slice b2 hnl.length d2) by rw [hw3, hqh]; exact heap_alloc_new w2 _)
    have hk3 : Kept (fun k => k = qc) w1 w3 := k2.step k3 (fun _ _ e => e.elim)
    have HO3 := Lib.hid (And.intro (o1.kept k3 (fun _ _ x => x)) (o2.kept k3 (fun _ _ x => x)))
    have HC3 := Lib.hid ((hin (by trivial)).keptF k3)
    have HH3 := Lib.hid (HistBox.same HH1.out hk3 (fun e => by have := HQ.out; omega))
    have HK3 : Hid (Kept (fun _ => False) w w3) := Lib.hid (HK1.out.new hk3 (by have := HQ.out; omega))
    have HXa : Hid (HRd W w3 p r (.slice ao vn vc) bs t n g gp gn) := Lib.hid ⟨HX1.out.br.kept hk3 (fun e => by have := HQ.out; omega) (fun k e1 e2 => by have := HOV.out k e1; have := HQ.out; omega), HX1.out.row.same hk3 (fun e => by have h1 := (Array.getElem?_eq_some_iff.1 HX0.out.row).1; have := HQ.out; omega), HX1.out.mp.keptS hk3 (fun k e1 e2 => by have h1 := (ownsRow_lt HX0.out.mp.own e1).1; have := HQ.out; omega) (fun k e => by have := HQ.out; have := HX0.out.mp.kept.size; omega), HX1.out.mn.keptS hk3 (fun k e1 e2 => by have h1 := (ownsRow_lt HX0.out.mn.own e1).1; have := HQ.out; omega) (fun k e => by have := HQ.out; have := HX0.out.mp.kept.size; omega), HX1.out.rb⟩
    have HN3 := Lib.hid (show qh ≠ qr ∧ qh ≠ p ∧ qh ≠ r ∧ w1.heap.size ≤ qh ∧ qr ≠ p ∧ qr ≠ r ∧ w.heap.size ≤ w1.heap.size by
      have h1 := (Array.getElem?_eq_some_iff.1 HX0.out.row).1
      have h2 := (Array.getElem?_eq_some_iff.1 HX0.out.br.box).1
      have h3 := k2.size
      have h4 := (Array.getElem?_eq_some_iff.1 HH0.out).1
      have := HQ.out
      refine ⟨by omega, by omega, by omega, by omega, block_ne HH0.out HX0.out.br.box (by decide), block_ne HH0.out HX0.out.row (by decide), by omega⟩)
    clear o1 o2 k2 hin hw3 k3 hk3
    go_upto_region 5 with fail
    rw [← HW3.out, ← hqh]
    clear hqh
    have e0 := HC3.out.c0
    have e1 := HC3.out.c1
    have e2 := HC3.out.c2
    rw [← HBL.out.2] at e1
    have p0 := HXa.out.br.c0
    have p1 := HXa.out.br.c1
    have p2 := HXa.out.br.c2
    have g0 := HXa.out.br.free 0
    have g1 := HXa.out.br.free 1
    have g2 := HXa.out.br.free 2
    have hput := HXa.out.br.put3 HC3.out.taken
    obtain ⟨tt, htt⟩ : ∃ k, k = t + NN := ⟨_, rfl⟩
    rw [← htt] at e2 hput
    rw [← HBL.out.2] at hput
    obtain ⟨w4, hw4⟩ : ∃ w', w' = ((w3.setCell ⟨p, 0, none⟩ (.slice ao vn vc)).setCell ⟨p, 1, none⟩ (.int .i64 (bl : Int))).setCell ⟨p, 2, none⟩ (.int .i64 (tt : Int)) := ⟨_, rfl⟩
    rw [← hw4] at hput
    have HW4 := Lib.hid hw4
    have HPT := Lib.hid hput
    have HTT := Lib.hid htt
    have HQ4 := Lib.hid (HistBox.same HQ3.out hput.2 (fun e => HN3.out.2.1 e))
    have HH4 := Lib.hid (HistBox.same HH3.out hput.2 (fun e => HN3.out.2.2.2.2.1 e))
    have HO4 := Lib.hid (And.intro (HO3.out.1.kept hput.2 (fun j hj e => own_box HO3.out.1 HXa.out.br.box (by decide) (by rw [hj, e]))) (HO3.out.2.kept hput.2 (fun j hj e => own_box HO3.out.2 HXa.out.br.box (by decide) (by rw [hj, e]))))
    have HR4 := Lib.hid (HXa.out.row.same hput.2 HXa.out.ne.1)
    clear hput hw4 htt
    go_upto_region 6 with fail
    rw [← HW4.out]
    clear e0 e1 e2 p0 p1 p2 g0 g1 g2
    obtain ⟨z0, z1, z2, z3, z4, z5⟩ := HistBox.c (h := ⟨hsc, hze, hpo, hpl, hno, hnl⟩) HQ4.out
    dsimp only at z0 z1 z2 z3 z4 z5
    go_wp2_with fail
    refine (hgoOn_any r n g ⟨hsc, hze, hpo, hpl, hno, hnl⟩ _ _ _ _ w4 HR4.out ⟨HO4.out.1.at_, HO4.out.2.at_⟩ HNN.out HLE.out.1 HLE.out.2).mono ?_
    rintro e w5 ⟨rfl, hg⟩
    have hgk : Kept (fun k => k = r) w4 w5 := by
      obtain ⟨_, _, _, _, m1, _, _, hk⟩ := hg
      exact (show Kept (fun k => k = r) _ _ from keptTo m1.kept).trans hk
    have HGO := Lib.hid (HXa.out.gone HPT.out.1 HPT.out.2 hg)
    have HQ5 := Lib.hid (HistBox.same HQ4.out hgk (fun e => HN3.out.2.2.1 e))
    have HH5 := Lib.hid (HistBox.same HH4.out hgk (fun e => HN3.out.2.2.2.2.2.1 e))
    have HO5 := Lib.hid (And.intro (HO4.out.1.kept hgk (fun j hj e => own_box HO4.out.1 HR4.out (by decide) (by rw [hj, e]))) (HO4.out.2.kept hgk (fun j hj e => own_box HO4.out.2 HR4.out (by decide) (by rw [hj, e]))))
    clear hg hgk z0 z1 z2 z3 z4 z5
    obtain ⟨z0, z1, z2, z3, z4, z5⟩ := HistBox.c (h := ⟨hsc, hze, hpo, hpl, hno, hnl⟩) HQ5.out
    dsimp only at z0 z1 z2 z3 z4 z5
    obtain ⟨x0, x1, x2, x3, x4, x5⟩ := HH5.out.c
    obtain ⟨f0, f1, f2, f3, f4, f5⟩ := HH5.out.f
    dsimp only [zeroH] at x0 x1 x2 x3 x4 x5
    go_wp2
    try simp only [Exit.inBlock, Exit.then]
    refine hist_end (h := ⟨hsc, hze, hpo, hpl, hno, hnl⟩) (pv := .slice b1 hpl.length d1) (nv := .slice b2 hnl.length d2) Tryd.results43 rfl rfl rfl (HH5.out.set ⟨hsc, hze, hpo, hpl, hno, hnl⟩ (.slice b1 hpl.length d1) (.slice b2 hnl.length d2)) ?_
    have hk7 := set6_kept w5 qr (.int .i64 hsc) (.int .u64 (hze : Int)) (.int .i64 hpo) (.slice b1 hpl.length d1) (.int .i64 hno) (.slice b2 hnl.length d2)
    obtain ⟨p', n', hx, hkx, hnew⟩ := HGO.out
    have hq := HQ.out
    refine .inr ⟨rfl, _, _, rfl, (HO5.out.1.kept hk7 (fun j hj e => own_box HO5.out.1 HH5.out (by decide) (by rw [hj, e]))).down HN3.out.2.2.2.2.2.2, (HO5.out.2.kept hk7 (fun j hj e => own_box HO5.out.2 HH5.out (by decide) (by rw [hj, e]))).down HN3.out.2.2.2.2.2.2, p', n', ⟨?_, ?_, ?_, ?_, hx.rb⟩, ?_, ?_⟩
    · rw [← HTT.out]
      exact hx.br.kept hk7 (fun e => HN3.out.2.2.2.2.1 e.symm) (fun k e1 e2 => by have := HOV.out k e1; omega)
    · exact hx.row.same hk7 (fun e => HN3.out.2.2.2.2.2.1 e.symm)
    · exact hx.mp.keptS hk7 (fun k e1 e2 => own_box hx.mp.own HH5.out (by decide) (by rw [e1, e2])) (fun k e => by have := HX0.out.mp.kept.size; omega)
    · exact hx.mn.keptS hk7 (fun k e1 e2 => own_box hx.mn.own HH5.out (by decide) (by rw [e1, e2])) (fun k e => by have := HX0.out.mp.kept.size; omega)
    · exact ((show Kept (fun k => k = p ∨ k = r) w w3 from keptTo HK3.out).trans hkx).new hk7 (by omega)
    · intro k e1
      have h1 := (ownsRow_lt HO4.out.1 e1).1
      exact ⟨fun e2 => by have := hnew k (.inl e2); omega, fun e2 => by have := hnew k (.inr e2); omega⟩
  · have q0 : ((EE : Int) != 0) = true := bneT (by omega)
    have HNE := Lib.hid hE
    clear hE
    go_enter Tryd.func43, Tryd.ntmps43
    go_upto_region 1 with fail
    rw [← HW0.out, ← HQ.out.1]
    go_upto_region 2 with fail
    rw [← HW1.out, ← hqc]
    clear hqc c0 c1 c2
    go_wp2_with fail
    refine HNX.out.mono ?_
    rintro e w2 ⟨pv, nv, rfl, o1, o2, k2, hin⟩
    obtain ⟨b1, d1, rfl⟩ := o1.slice
    obtain ⟨b2, d2, rfl⟩ := o2.slice
    unfold histV
    dsimp only at o1 o2 hin ⊢
    obtain ⟨w3, hw3⟩ : ∃ w', w' = w2.alloc (.cells #[.int .i64 hsc, .int .u64 (hze : Int), .int .i64 hpo, .slice b1 hpl.length d1, .int .i64 hno, .slice b2 hnl.length d2] 62) := ⟨_, rfl⟩
    have k3 : Kept (fun _ => False) w2 w3 := by rw [hw3]; exact (Kept.refl _ _).alloc _
    have HW3 := Lib.hid hw3
    have hk3 : Kept (fun k => k = qc) w1 w3 := k2.step k3 (fun _ _ e => e.elim)
    have HH3 := Lib.hid (HistBox.same HH1.out hk3 (fun e => by have := HQ.out; omega))
    have HK3 : Hid (Kept (fun _ => False) w w3) := Lib.hid (HK1.out.new hk3 (by have := HQ.out; omega))
    clear o1 o2 k2 hin hw3 k3 hk3
    go_upto_region 3 with fail
    rw [← HW3.out]
    obtain ⟨x0, x1, x2, x3, x4, x5⟩ := HH3.out.c
    obtain ⟨f0, f1, f2, f3, f4, f5⟩ := HH3.out.f
    dsimp only [zeroH] at x0 x1 x2 x3 x4 x5
    go_wp2
    try simp only [Exit.inBlock, Exit.then]
    refine hist_end (h := zeroH) (pv := .slice none 0 0) (nv := .slice none 0 0) Tryd.results43 rfl rfl rfl (HH3.out.set zeroH (.slice none 0 0) (.slice none 0 0)) ?_
    exact .inl ⟨HNE.out, rfl, HK3.out.new (set6_kept _ _ _ _ _ _ _ _) (by have := HQ.out; omega)⟩
end Go.Proofs.YtjpnfadmblmjbaaDoor
/- Parts of the texts of layer 6 that layer 7 needs. -/
namespace Go.Proofs.YtjpnfadmblmjbaaDoor
open Go.RowKit
attribute [local go_sem ↓] Go.wp_at_zero Go.wp_at_succ

theorem numB_two (l : List Bool) (S : Nat) : numB (l.take S) < 2 ^ S := Nat.lt_of_lt_of_le (numB_lt _) (Nat.pow_le_pow_right (by omega) (by rw [List.length_take]; omega))

theorem bitsN_numB_all (l : List Bool) : bitsN (numB l) l.length = l := by
  apply List.ext_getElem?
  intro i
  rw [bitsN_get]
  by_cases h : i < l.length
  · rw [if_pos h, numB_testBit, List.getElem?_eq_getElem h]
    have e : l.length - 1 - (l.length - 1 - i) = i := by omega
    rw [e, List.getD_eq_getElem?_getD, List.getElem?_eq_getElem h]
    simp; omega
  · rw [if_neg h, List.getElem?_eq_none (by omega)]
theorem bitsN_numB_take (l : List Bool) (n : Nat) (h : n ≤ l.length) : bitsN (numB (l.take n)) n = l.take n := by
  have := bitsN_numB_all (l.take n)
  rw [List.length_take, Nat.min_eq_left h] at this
  exact this

theorem BwAt.apartT {w : World} {B p r : Nat} {v : Value} {bs : List Bool} {cs : Array Value} {T : TypeId} {fr : Nat × Nat} (h : BwAt w B p v bs) (hr : w.heap[r]? = some (.cells cs T fr)) (h1 : T ≠ 80) (h2 : T ≠ 5) : r ≠ p ∧ v.ownBlock ≠ some r := by
  refine ⟨?_, ?_⟩
  · rintro rfl
    have := h.box
    rw [hr] at this
    injection this with this; injection this with _ e _
    exact h1 e
  · intro e
    obtain ⟨cur, hc⟩ := ownsRow_block h.owns e
    rw [hr] at hc
    injection hc with this; injection this with _ e _
    exact h2 e
theorem bytesStr (W w : World) (p : Nat) (v : Value) (bs : List Bool) (h : BwAt w W.heap.size p v bs) (hl : bs.length ≤ 100000000) :
    Calls Tryd.prog 17 #[.pointer (some ⟨p, 0, none⟩)] w fun e w' => ∃ vb, e = .returned vb ∧ (∀ w'', Kept (fun _ => False) w' w'' → (convert 33 9 vb).run Tryd.prog w'' = .ok (.string (strN (packB bs))) w'') ∧ Kept (fun _ => False) w w' := by
  refine (bwbytes_any W.heap.size p v bs w h (by omega)).mono ?_
  rintro e w' ⟨vb, rfl, ho, hk⟩
  exact ⟨vb, rfl, fun w'' hk2 => run_strN ((SlAt.ofOwn ho).kept hk2 (fun _ _ x => x)) 33 5 9 Tryd.underlying33 Tryd.underlying5 Tryd.underlying9, hk⟩

theorem BwAt.apartO {w : World} {B B' p s n : Nat} {v v' : Value} {bs : List Bool} {E : TypeId} {xs : List Value} (h : BwAt w B p v bs) (ho : w.ownsRow B' E s v' n xs) (h1 : E ≠ 80) (h2 : E ≠ 5) : ∀ k, v'.ownBlock = some k → k ≠ p ∧ v.ownBlock ≠ some k := by
  intro k e
  obtain ⟨cur, hc⟩ := ownsRow_block ho e
  exact h.apartT hc h1 h2

theorem wpList_mineI2 {ops : Array Oper} {rest : List Oper} {o : Oper} {a : Act} {Q : Exit → Act → World → Prop} {w : World} (hgd : o.guard = none) (s x : Operand)
    (ho : o.op = .call { callee := .builtin .append, args := #[s, x], argTypes := #[26, 26] })
    (W : World) (v : Value) (xs : List Value) (hv : a.eval s = v) (hm : Mine W w 3 v xs)
    (y : Value) (news : List Value) (hy : a.eval x = y) (hs : Src Tryd.prog 1 26 y news.length news w)
    (hl : xs.length + news.length ≤ 1000000000000)
    (h : ∀ v' w', Mine W w' 3 v' (xs ++ news) → Kept (fun k => v.ownBlock = some k) w w' → (v'.ownBlock = v.ownBlock ∨ v'.ownBlock = some w.heap.size) → wpList Tryd.prog ops Q rest (a.put o.dst v') w') : wpList Tryd.prog ops Q (o :: rest) a w := by
  obtain ⟨iI, hiI, hzI0, hzI1, hzI2⟩ := info_parts Tryd.infoInt
  refine wpList_append_src w hgd s x 26 26 ho W.heap.size 3 iI (.int .i64 0) 1 8 Tryd.underlying26 hiI hzI0 hzI1 hzI2 rfl v xs.length xs hv hm.own y news.length news hy hs (by unfold maxLen; omega) (by omega) hm.kept.size ?_
  intro v' w' hown hg _ hat
  refine h v' w' ⟨by rw [List.length_append]; exact hown, hm.kept.grown hg (fun k e hlt => ?_)⟩ ((Kept.refl (fun k => v.ownBlock = some k) w).grown hg (fun k e _ => e)) hat
  have := (ownsRow_lt hm.own e).2; omega
end Go.Proofs.YtjpnfadmblmjbaaDoor
/- Layer 10, plainly: what is put is taken as it was, and what is taken is put as it was. -/
namespace Go.Proofs.YtjpnfadmblmjbaaDoor
open Go.RowKit

theorem gotSmall_put (v : Nat) (rest : List Bool) (hv : v < 18446744073709551616) : gotSmall (smallB v ++ rest) = (v, (smallB v).length, 0) := by
  have hc := classN_le v
  have hfit := class_fits v hv
  have hlen : (smallB v).length = 2 + sizeC.getD (classN v) 0 := by unfold smallB; simp
  have h2 : numB ((smallB v ++ rest).take 2) = classN v := by
    unfold smallB
    rw [List.append_assoc, List.take_append, List.take_of_length_le (by simp), bitsN_length]
    simp only [Nat.sub_self, List.take_zero, List.append_nil]
    exact numB_bitsN _ 2 (by simpa using hc)
  have h3 : ((smallB v ++ rest).drop 2).take (sizeC.getD (classN v) 0) = bitsN v (sizeC.getD (classN v) 0) := by
    unfold smallB
    rw [List.append_assoc, List.drop_append, List.drop_eq_nil_of_le (by simp), bitsN_length]
    simp only [Nat.sub_self, List.drop_zero, List.nil_append]
    rw [List.take_append, List.take_of_length_le (by simp), bitsN_length]
    simp
  unfold gotSmall
  rw [h2, h3, numB_bitsN v _ hfit, List.length_append, hlen, if_neg (by omega), if_neg (by omega), if_neg (fun e => e rfl)]
theorem smallB_got (l : List Bool) (h : (gotSmall l).2.2 = 0) : smallB (gotSmall l).1 = l.take (gotSmall l).2.1 := by
  rcases gotSmall_cases l with ⟨_, e⟩ | ⟨h2, c, S, hc, hc4, hS, _, ⟨_, e⟩ | ⟨h3, x, hx, _, ⟨_, e⟩ | ⟨h4, e⟩⟩⟩
  · rw [e] at h; exact absurd h (by decide)
  · rw [e] at h; exact absurd h (by decide)
  · rw [e] at h; exact absurd h (by decide)
  · rw [e]
    show smallB x = l.take (2 + S)
    unfold smallB
    rw [h4, ← hS, hc, bitsN_numB_take l 2 h2, hx, bitsN_numB_take _ S (by rw [List.length_drop]; omega)]
    rw [List.take_add]
theorem zag_zgN (a : Int) (h : I64 a) : zagI ((zgN a : Nat) : Int) = a := by rw [← (zgN_eq a h.1 h.2).1, zag_zig]
theorem addU_dif (a b : Nat) (ha : a < 18446744073709551616) : addU b (difI a b) = a := by unfold addU difI wrap64; omega
theorem dif_addU (b : Nat) (z : Int) (hz : I64 z) : difI (addU b z) b = z := by unfold I64 at hz; unfold addU difI wrap64; omega
theorem zgN_zag (v : Nat) (hv : v < 18446744073709551616) : zgN (zagI (v : Int)) = v := by
  unfold zgN zigI zagI
  split <;> split <;> omega

/-- A row of bits that begins with what f i reads from each piece. -/
theorem stN_put (f : Nat → List Bool → Nat × Nat × Nat) (C : List Nat) (P : Nat → List Bool) (l : List Bool) (k : Nat)
    (hd : ∀ k, k < C.length → ∃ rest, l.drop (P k).length = rest ∧ f k rest = (C.getD k 0, (P (k + 1)).length - (P k).length, 0) ∧ (P k).length ≤ (P (k + 1)).length) (h0 : (P 0).length = 0) (hk : k ≤ C.length) :
    stN f l k = (C.take k, (P k).length, 0) := by
  induction k with
  | zero => simp [stN, h0]
  | succ k ih =>
    have ih := ih (by omega)
    obtain ⟨rest, e1, e2, e3⟩ := hd k (by omega)
    rw [stN_succ f l k (by rw [ih])]
    rw [ih]
    dsimp only
    rw [e1, e2, if_neg (by simp)]
    have hC : C.take (k + 1) = C.take k ++ [C.getD k 0] := by
      rw [List.take_add_one, List.getD_eq_getElem?_getD, List.getElem?_eq_getElem (show k < C.length by omega)]
      rfl
    rw [hC, Nat.add_sub_cancel' e3]
theorem take_drop_flat (C : List Nat) (k : Nat) : C.flatMap smallB = (C.take k).flatMap smallB ++ (C.drop k).flatMap smallB := by
  rw [← List.flatMap_append, List.take_append_drop]
theorem stN_readF (C : List Nat) (hC : ∀ x ∈ C, x < 18446744073709551616) (rest : List Bool) : stN readF (C.flatMap smallB ++ rest) C.length = (C, (C.flatMap smallB).length, 0) := by
  have := stN_put readF C (fun k => (C.take k).flatMap smallB) (C.flatMap smallB ++ rest) C.length (fun k hk => by
    refine ⟨_, rfl, ?_, ?_⟩
    · have e : (C.flatMap smallB ++ rest).drop ((C.take k).flatMap smallB).length = smallB (C.getD k 0) ++ ((C.drop (k + 1)).flatMap smallB ++ rest) := by
        rw [take_drop_flat C k, List.append_assoc, List.drop_left, List.drop_eq_getElem_cons hk, List.flatMap_cons, List.getD_eq_getElem?_getD, List.getElem?_eq_getElem hk]
        simp
      rw [e]
      unfold readF
      rw [gotSmall_put _ _ (getD_u64 hC k), smalls_take C k hk, List.length_append, Nat.add_sub_cancel_left]
    · rw [smalls_take C k hk, List.length_append]; omega) rfl (Nat.le_refl _)
  rw [this, List.take_length]
theorem difB_split (C D : List Nat) (k : Nat) : difB C D = difB (C.take k) D ++ difB (C.drop k) (D.drop k) := by
  induction C generalizing D k with
  | nil => simp [difB]
  | cons a C ih =>
    cases k with
    | zero => simp [difB]
    | succ k =>
      simp only [List.take_succ_cons, List.drop_succ_cons, difB]
      rw [ih D.tail k, List.append_assoc]
      congr 2
      cases D with
      | nil => simp
      | cons b D => simp
theorem stN_readD (C D : List Nat) (hC : ∀ x ∈ C, x < 18446744073709551616) (rest : List Bool) : stN (readD D) (difB C D ++ rest) C.length = (C, (difB C D).length, 0) := by
  have := stN_put (readD D) C (fun k => difB (C.take k) D) (difB C D ++ rest) C.length (fun k hk => by
    refine ⟨_, rfl, ?_, ?_⟩
    · have e : (difB C D ++ rest).drop (difB (C.take k) D).length = smallB (zgN (difI (C.getD k 0) (D.getD k 0))) ++ (difB (C.drop (k + 1)) (D.drop (k + 1)) ++ rest) := by
        rw [difB_split C D k, List.append_assoc, List.drop_left, List.drop_eq_getElem_cons hk]
        have e1 : (D.drop k).headD 0 = D.getD k 0 := by
          rw [List.headD_eq_head?_getD, List.head?_drop, List.getD_eq_getElem?_getD]
        have e2 : (D.drop k).tail = D.drop (k + 1) := List.tail_drop
        have e3 : C.getD k 0 = C[k] := by rw [List.getD_eq_getElem?_getD, List.getElem?_eq_getElem hk]; rfl
        simp only [difB]
        rw [e1, e2, e3, List.append_assoc]
      rw [e]
      have hr := difI_range (C.getD k 0) (D.getD k 0)
      unfold readD
      rw [gotSmall_put _ _ (zgN_eq _ hr.1 hr.2).2]
      dsimp only
      rw [zag_zgN _ hr, addU_dif _ _ (getD_u64 hC k), difB_take C D k hk, List.length_append, Nat.add_sub_cancel_left]
    · rw [difB_take C D k hk, List.length_append]; omega) rfl (Nat.le_refl _)
  rw [this, List.take_length]
theorem gotSide_put (o : Int) (n : Nat) (rest : List Bool) (hn : n ≤ 160) (ho : I64 o) (h0 : n = 0 → o = 0) : gotSide (sideB o n ++ rest) = (o, n, (sideB o n).length, 0) := by
  have hl8 : (bitsN n 8).length = 8 := bitsN_length n 8
  have hnum : numB (bitsN n 8) = n := numB_bitsN n 8 (by simp; omega)
  by_cases hz : n = 0
  · have e : sideB o n = bitsN n 8 := by unfold sideB; rw [if_pos hz, List.append_nil]
    have ht : (bitsN n 8 ++ rest).take 8 = bitsN n 8 := by rw [List.take_append_of_le_length (by omega), List.take_of_length_le (by omega)]
    rw [e]
    unfold gotSide
    rw [ht, hnum, List.length_append, hl8, if_neg (by omega), if_neg (by omega), if_pos hz, hz, h0 hz]
  · have e : sideB o n = bitsN n 8 ++ smallB (zgN o) := by unfold sideB; rw [if_neg hz]
    have ht : (bitsN n 8 ++ smallB (zgN o) ++ rest).take 8 = bitsN n 8 := by rw [List.append_assoc, List.take_append_of_le_length (by omega), List.take_of_length_le (by omega)]
    have hdr : (bitsN n 8 ++ smallB (zgN o) ++ rest).drop 8 = smallB (zgN o) ++ rest := by rw [List.append_assoc]; exact List.drop_left' hl8
    rw [e]
    unfold gotSide
    rw [ht, hdr, hnum, gotSmall_put _ _ (zgN_eq o ho.1 ho.2).2, List.length_append, List.length_append, hl8, if_neg (by omega), if_neg (by omega), if_neg hz]
    dsimp only
    rw [zag_zgN o ho]
theorem gotShape_put (h : HistV) (rest : List Bool) (hs : -10 ≤ h.sc ∧ h.sc ≤ 20) (hp : h.pl.length ≤ 160) (hn : h.nl.length ≤ 160) (hpo : I64 h.po) (hno : I64 h.no) (h0 : h.pl.length = 0 → h.po = 0) (h1 : h.nl.length = 0 → h.no = 0) :
    gotShape (shapeB h ++ rest) = (shOf h, (shapeB h).length, 0) := by
  have hl5 : (bitsN (h.sc + 10).toNat 5).length = 5 := bitsN_length _ 5
  have hnum : numB (bitsN (h.sc + 10).toNat 5) = (h.sc + 10).toNat := numB_bitsN _ 5 (by simp; omega)
  have e : shapeB h ++ rest = bitsN (h.sc + 10).toNat 5 ++ (sideB h.po h.pl.length ++ (sideB h.no h.nl.length ++ rest)) := by unfold shapeB; simp [List.append_assoc]
  have hlen : (shapeB h).length = 5 + (sideB h.po h.pl.length).length + (sideB h.no h.nl.length).length := by unfold shapeB; rw [List.length_append, List.length_append, hl5]
  rw [e, hlen]
  have ht : (bitsN (h.sc + 10).toNat 5 ++ (sideB h.po h.pl.length ++ (sideB h.no h.nl.length ++ rest))).take 5 = bitsN (h.sc + 10).toNat 5 := by rw [List.take_append_of_le_length (by omega), List.take_of_length_le (by omega)]
  have hd : (bitsN (h.sc + 10).toNat 5 ++ (sideB h.po h.pl.length ++ (sideB h.no h.nl.length ++ rest))).drop 5 = sideB h.po h.pl.length ++ (sideB h.no h.nl.length ++ rest) := List.drop_left' hl5
  have hd2 : (bitsN (h.sc + 10).toNat 5 ++ (sideB h.po h.pl.length ++ (sideB h.no h.nl.length ++ rest))).drop (5 + (sideB h.po h.pl.length).length) = sideB h.no h.nl.length ++ rest := by
    rw [← List.drop_drop, hd, List.drop_left]
  have g1 := gotSide_put h.po h.pl.length (sideB h.no h.nl.length ++ rest) hp hpo h0
  have g2 := gotSide_put h.no h.nl.length rest hn hno h1
  unfold gotShape
  rw [if_neg (by rw [List.length_append, hl5]; omega)]
  simp only
  rw [hd, g1]
  dsimp only
  rw [if_neg (fun e => e rfl), hd2, g2, ht, hnum]
  dsimp only
  have hsc' : (((h.sc + 10).toNat : Nat) : Int) - 10 = h.sc := by omega
  rw [hsc']
  rfl
theorem mkH_cnt (h : HistV) : mkH (shOf h) (cntL h) = h := by
  obtain ⟨sc, ze, po, pl, no, nl⟩ := h
  unfold mkH shOf cntL
  simp [Nat.add_comm 1]
theorem cntL_u64 (h : HistV) (hok : h.ok) : ∀ x ∈ cntL h, x < 18446744073709551616 := by
  intro x hx
  unfold cntL at hx
  rcases List.mem_cons.1 hx with rfl | hx
  · exact hok.ze
  · rcases List.mem_append.1 hx with hx | hx
    · exact hok.pl x hx
    · exact hok.nl x hx
/-- What was put is taken. -/
theorem gotH_put (n : Nat) (g h : HistV) (rest : List Bool) (he : h.err = 0) (hok : h.ok) : gotH n g (nextH n g h ++ rest) = (h, (nextH n g h).length, 0) := by
  have hsc := (err_light he).1
  have hp := sideE_zero (err_light he).2.1
  have hn := sideE_zero (err_light he).2.2.1
  unfold nextH
  by_cases ha : 0 < n ∧ alikeH h g
  · rw [if_pos ha]
    have hsg : shOf g = shOf h := by
      obtain ⟨_, a, b, c, d, e⟩ := ha
      unfold shOf; rw [a, b, c, d, e]
    have hlen : 1 + (shOf h).pn + (shOf h).nn = (cntL h).length := by rw [cntL_length]; rfl
    unfold gotH
    rw [if_neg (by simp), if_pos (by simp), if_neg (by omega)]
    simp only [List.cons_append, List.drop_succ_cons, List.drop_zero]
    rw [hsg]
    unfold gotC
    rw [hlen, stN_readD (cntL h) (cntL g) (cntL_u64 h hok) rest]
    dsimp only
    rw [if_neg (fun e => e rfl), mkH_cnt, he, List.length_cons, Nat.add_comm 1]
  · rw [if_neg ha]
    have hgs := gotShape_put h ((cntL h).flatMap smallB ++ rest) hsc hp.1 hn.1 hok.po hok.no hp.2.1 hn.2.1
    have hlen : 1 + (shOf h).pn + (shOf h).nn = (cntL h).length := by rw [cntL_length]; rfl
    unfold gotH
    rw [if_neg (by simp), if_neg (by simp)]
    simp only [List.cons_append, List.drop_succ_cons, List.drop_zero]
    rw [List.append_assoc, hgs]
    dsimp only
    rw [if_neg (fun e => e rfl)]
    have hdr : (false :: (shapeB h ++ ((cntL h).flatMap smallB ++ rest))).drop (1 + (shapeB h).length) = (cntL h).flatMap smallB ++ rest := by
      rw [Nat.add_comm 1, List.drop_succ_cons, List.drop_left]
    rw [hdr]
    have hgc : gotC readF (shOf h) ((cntL h).flatMap smallB ++ rest) = (h, ((cntL h).flatMap smallB).length, 0) := by
      unfold gotC
      rw [hlen, stN_readF (cntL h) (cntL_u64 h hok) rest]
      dsimp only
      rw [if_neg (fun e => e rfl), mkH_cnt, he]
    rw [hgc]
    dsimp only
    rw [if_neg (fun e => e rfl), if_neg ?_]
    · rw [List.length_cons, List.length_append, Nat.add_comm 1, Nat.add_right_comm]
    · rintro ⟨h1, h2⟩
      refine ha ⟨h1, ?_⟩
      unfold shOf at h2
      injection h2 with e1 e2 e3 e4 e5
      exact ⟨e1, e2, e3, e4, e5⟩
end Go.Proofs.YtjpnfadmblmjbaaDoor
/- package histbits: Clone. package limnographref10: Alike, all, number, shape (written by tools/gen_XZ21.py). -/
namespace Go.Proofs.YtjpnfadmblmjbaaDoor
open Go.RowKit
attribute [local go_sem ↓] Go.wp_at_zero Go.wp_at_succ

/-- What a row's Clone answers and leaves. -/
def CloneTo (w : World) (n : Nat) (g : HistV) (e : Ending) (w' : World) : Prop :=
  ∃ q pv nv, e = .returned (.pointer (some ⟨q, 0, none⟩)) ∧ HRow w' q n g pv nv ∧ Mine w w' 28 pv (uvals g.pl) ∧ Mine w w' 28 nv (uvals g.nl) ∧ w.heap.size ≤ q
set_option maxHeartbeats 4000000 in
set_option maxRecDepth 100000 in
theorem hrowClone_any (r n : Nat) (gp gn : Value) (g : HistV) (w : World) (hrow : HRow w r n g gp gn) (hga : HistAt w g gp gn) (hgp : g.pl.length ≤ 1000000) (hgn : g.nl.length ≤ 1000000) :
    Calls Tryd.prog 38 #[.pointer (some ⟨r, 0, none⟩)] w (CloneTo w n g) := by
  obtain ⟨⟨a1, c1, rfl⟩, a2, c2, rfl⟩ := hga.sl
  have HCL := Lib.hid fun w' (k : HistAt w' g (.slice a1 g.pl.length c1) (.slice a2 g.nl.length c2)) => hclone_any g _ _ w' k hgp hgn
  have HA := Lib.hid hga
  have HX := Lib.hid hrow
  obtain ⟨gsc, gze, gpo, gpl, gno, gnl⟩ := g
  unfold histV at HCL
  dsimp only at HCL HA HX
  clear hrow hga hgp hgn
  go_enter Tryd.func38, Tryd.ntmps38
  go_upto_region 1 with fail
  have hkd := (Kept.refl (fun _ => False) w).drew
  have HSSa : Hid ((fun w' => w'.cell? ⟨r, 0, none⟩ = some (.int .i64 (n : Int)) ∧ w'.cell? ⟨r, 1, none⟩ = some (.int .i64 gsc) ∧ w'.cell? ⟨r, 2, none⟩ = some (.int .u64 (gze : Int)) ∧ w'.cell? ⟨r, 3, none⟩ = some (.int .i64 gpo) ∧ w'.cell? ⟨r, 4, none⟩ = some (.slice a1 gpl.length c1) ∧ w'.cell? ⟨r, 5, none⟩ = some (.int .i64 gno) ∧ w'.cell? ⟨r, 6, none⟩ = some (.slice a2 gnl.length c2)) w.drew) := by
    obtain ⟨y0, y1, y2, y3, y4, y5, y6⟩ := HRow.c (h := ⟨gsc, gze, gpo, gpl, gno, gnl⟩) (HRow.same HX.out hkd (fun x => x))
    exact Lib.hid ⟨y0, y1, y2, y3, y4, y5, y6⟩
  have HKD := Lib.hid hkd
  clear hkd
  refine AnyBut.start (S := fun w' => w'.cell? ⟨r, 0, none⟩ = some (.int .i64 (n : Int)) ∧ w'.cell? ⟨r, 1, none⟩ = some (.int .i64 gsc) ∧ w'.cell? ⟨r, 2, none⟩ = some (.int .u64 (gze : Int)) ∧ w'.cell? ⟨r, 3, none⟩ = some (.int .i64 gpo) ∧ w'.cell? ⟨r, 4, none⟩ = some (.slice a1 gpl.length c1) ∧ w'.cell? ⟨r, 5, none⟩ = some (.int .i64 gno) ∧ w'.cell? ⟨r, 6, none⟩ = some (.slice a2 gnl.length c2)) (k := 11) (by kernel_rfl) ?_
  refine AnyBut.take (i := 0) (v := ?v1) rfl (by kernel_rfl) (by kernel_rfl) (by kernel_rfl) (by kernel_rfl) (fun _ _ _ h => h) (HSSa.out) (Or.inl ⟨by kernel_rfl, ?hy1⟩) ?r1
  case hy1 =>
    intro w hSw
    try dsimp only at hSw
    go_simp
    try with_reducible rfl
  try simp only [Act.put, List.getElem_toArray, List.getElem_cons_zero, List.setIfInBounds_toArray, List.set_cons_zero, List.set_cons_succ]
  refine AnyBut.take (i := 1) (v := ?v2) rfl (by kernel_rfl) (by kernel_rfl) (by kernel_rfl) (by kernel_rfl) (fun _ _ _ h => h) (HSSa.out) (Or.inl ⟨by kernel_rfl, ?hy2⟩) ?r2
  case hy2 =>
    intro w hSw
    try dsimp only at hSw
    go_simp
    try with_reducible rfl
  try simp only [Act.put, List.getElem_toArray, List.getElem_cons_succ, List.getElem_cons_zero, List.setIfInBounds_toArray, List.set_cons_zero, List.set_cons_succ]
  refine AnyBut.take (i := 2) (v := ?v3) rfl (by kernel_rfl) (by kernel_rfl) (by kernel_rfl) (by kernel_rfl) (fun _ _ _ h => h) (HSSa.out) (Or.inl ⟨by kernel_rfl, ?hy3⟩) ?r3
  case hy3 =>
    intro w hSw
    try dsimp only at hSw
    go_simp
    try with_reducible rfl
  try simp only [Act.put, List.getElem_toArray, List.getElem_cons_succ, List.getElem_cons_zero, List.setIfInBounds_toArray, List.set_cons_zero, List.set_cons_succ]
  refine AnyBut.take (i := 3) (v := ?v4) rfl (by kernel_rfl) (by kernel_rfl) (by kernel_rfl) (by kernel_rfl) (fun _ _ _ h => h) (HSSa.out) (Or.inl ⟨by kernel_rfl, ?hy4⟩) ?r4
  case hy4 =>
    intro w hSw
    try dsimp only at hSw
    go_simp
    try with_reducible rfl
  try simp only [Act.put, List.getElem_toArray, List.getElem_cons_succ, List.getElem_cons_zero, List.setIfInBounds_toArray, List.set_cons_zero, List.set_cons_succ]
  refine AnyBut.take (i := 4) (v := ?v5) rfl (by kernel_rfl) (by kernel_rfl) (by kernel_rfl) (by kernel_rfl) (fun _ _ _ h => h) (HSSa.out) (Or.inl ⟨by kernel_rfl, ?hy5⟩) ?r5
  case hy5 =>
    intro w hSw
    try dsimp only at hSw
    go_simp
    try with_reducible rfl
  try simp only [Act.put, List.getElem_toArray, List.getElem_cons_succ, List.getElem_cons_zero, List.setIfInBounds_toArray, List.set_cons_zero, List.set_cons_succ]
  refine AnyBut.take (i := 5) (v := ?v6) rfl (by kernel_rfl) (by kernel_rfl) (by kernel_rfl) (by kernel_rfl) (fun _ _ _ h => h) (HSSa.out) (Or.inl ⟨by kernel_rfl, ?hy6⟩) ?r6
  case hy6 =>
    intro w hSw
    try dsimp only at hSw
    go_simp
    try with_reducible rfl
  try simp only [Act.put, List.getElem_toArray, List.getElem_cons_succ, List.getElem_cons_zero, List.setIfInBounds_toArray, List.set_cons_zero, List.set_cons_succ]
  refine AnyBut.take (i := 6) (v := ?v7) rfl (by kernel_rfl) (by kernel_rfl) (by kernel_rfl) (by kernel_rfl) (fun _ _ _ h => h) (HSSa.out) (Or.inl ⟨by kernel_rfl, ?hy7⟩) ?r7
  case hy7 =>
    intro w hSw
    try dsimp only at hSw
    go_simp
    try with_reducible rfl
  try simp only [Act.put, List.getElem_toArray, List.getElem_cons_succ, List.getElem_cons_zero, List.setIfInBounds_toArray, List.set_cons_zero, List.set_cons_succ]
  refine AnyBut.take (i := 7) (v := ?v8) rfl (by kernel_rfl) (by kernel_rfl) (by kernel_rfl) (by kernel_rfl) (fun _ _ _ h => h) (HSSa.out) (Or.inl ⟨by kernel_rfl, ?hy8⟩) ?r8
  case hy8 =>
    intro w hSw
    try dsimp only at hSw
    go_simp
    try with_reducible rfl
  try simp only [Act.put, List.getElem_toArray, List.getElem_cons_succ, List.getElem_cons_zero, List.setIfInBounds_toArray, List.set_cons_zero, List.set_cons_succ]
  refine AnyBut.one (i := 8) (by kernel_rfl) rfl (fun K hK => ?_)
  go_simp
  go_wp2_with fail
  refine (HCL.out _ (HA.out.on HKD.out)).mono ?_
  rintro e w1 ⟨pv, nv, rfl, m1, m2⟩
  obtain ⟨b1, d1, rfl⟩ := m1.slice
  obtain ⟨b2, d2, rfl⟩ := m2.slice
  simp only [uvals_length] at m1 m2 ⊢
  have HM1 := Lib.hid (And.intro (m1.down HKD.out) (m2.down HKD.out))
  have HKE := Lib.hid (HKD.out.trans m1.kept)
  clear m1 m2
  have HSSb : Hid ((fun w' => w'.cell? ⟨r, 0, none⟩ = some (.int .i64 (n : Int)) ∧ w'.cell? ⟨r, 1, none⟩ = some (.int .i64 gsc) ∧ w'.cell? ⟨r, 2, none⟩ = some (.int .u64 (gze : Int)) ∧ w'.cell? ⟨r, 3, none⟩ = some (.int .i64 gpo) ∧ w'.cell? ⟨r, 4, none⟩ = some (.slice a1 gpl.length c1) ∧ w'.cell? ⟨r, 5, none⟩ = some (.int .i64 gno) ∧ w'.cell? ⟨r, 6, none⟩ = some (.slice a2 gnl.length c2)) w1) := by
    obtain ⟨y0, y1, y2, y3, y4, y5, y6⟩ := HRow.c (h := ⟨gsc, gze, gpo, gpl, gno, gnl⟩) (HRow.same HX.out HKE.out (fun x => x))
    exact Lib.hid ⟨y0, y1, y2, y3, y4, y5, y6⟩
  go_wp2
  refine hK.out _ _ (HSSb.out) ?_
  clear hK K
  try simp only [Act.put, List.getElem_toArray, List.getElem_cons_succ, List.getElem_cons_zero, List.setIfInBounds_toArray, List.set_cons_zero, List.set_cons_succ]
  refine AnyBut.take (i := 9) (v := ?v9) rfl (by kernel_rfl) (by kernel_rfl) (by kernel_rfl) (by kernel_rfl) (fun _ _ _ h => h) (HSSb.out) (Or.inl ⟨by kernel_rfl, ?hy9⟩) ?r9
  case hy9 =>
    intro w hSw
    try dsimp only at hSw
    go_simp
    try with_reducible rfl
  try simp only [Act.put, List.getElem_toArray, List.getElem_cons_succ, List.getElem_cons_zero, List.setIfInBounds_toArray, List.set_cons_zero, List.set_cons_succ]
  refine AnyBut.one (i := 10) (by kernel_rfl) rfl (fun K hK => ?_)
  obtain ⟨w2, hw2⟩ : ∃ w', w' = w1.alloc (.cells #[.int .i64 (n : Int), .int .i64 gsc, .int .u64 (gze : Int), .int .i64 gpo, .slice b1 gpl.length d1, .int .i64 gno, .slice b2 gnl.length d2] 97) := ⟨_, rfl⟩
  have k2 : Kept (fun _ => False) w1 w2 := by rw [hw2]; exact (Kept.refl _ _).alloc _
  have HQ2 := Lib.hid (show HRow w2 w1.heap.size n ⟨gsc, gze, gpo, gpl, gno, gnl⟩ (.slice b1 gpl.length d1) (.slice b2 gnl.length d2) by rw [hw2]; exact heap_alloc_new w1 _)
  have HM2 := Lib.hid (show Mine w w2 28 _ _ ∧ Mine w w2 28 _ _ ∧ w.heap.size ≤ w1.heap.size from ⟨HM1.out.1.on k2, HM1.out.2.on k2, HKE.out.size⟩)
  have HSSc : Hid ((fun w' => w'.cell? ⟨r, 0, none⟩ = some (.int .i64 (n : Int)) ∧ w'.cell? ⟨r, 1, none⟩ = some (.int .i64 gsc) ∧ w'.cell? ⟨r, 2, none⟩ = some (.int .u64 (gze : Int)) ∧ w'.cell? ⟨r, 3, none⟩ = some (.int .i64 gpo) ∧ w'.cell? ⟨r, 4, none⟩ = some (.slice a1 gpl.length c1) ∧ w'.cell? ⟨r, 5, none⟩ = some (.int .i64 gno) ∧ w'.cell? ⟨r, 6, none⟩ = some (.slice a2 gnl.length c2)) w2) := by
    obtain ⟨y0, y1, y2, y3, y4, y5, y6⟩ := HRow.c (h := ⟨gsc, gze, gpo, gpl, gno, gnl⟩) (HRow.same HX.out (HKE.out.trans k2) (fun x => x))
    exact Lib.hid ⟨y0, y1, y2, y3, y4, y5, y6⟩
  have HW2 := Lib.hid hw2
  clear hw2 k2
  go_simp
  rw [← HW2.out]
  refine hK.out _ _ (HSSc.out) ?_
  clear hK K
  try simp only [Act.put, List.getElem_toArray, List.getElem_cons_succ, List.getElem_cons_zero, List.setIfInBounds_toArray, List.set_cons_zero, List.set_cons_succ]
  refine AnyBut.last (by kernel_rfl) rfl (by kernel_rfl) (fun K hK => ?_)
  go_simp
  refine hK.out _ _ ?_
  clear hK K
  try simp only [Act.put, List.getElem_toArray, List.getElem_cons_succ, List.getElem_cons_zero, List.setIfInBounds_toArray, List.set_cons_zero, List.set_cons_succ]
  go_wp2
  go_ret
  exact ⟨_, _, _, rfl, HQ2.out, HM2.out.1, HM2.out.2.1, HM2.out.2.2⟩



set_option maxHeartbeats 4000000 in
set_option maxRecDepth 100000 in
theorem refAlike_any (h g : HistV) (pv nv gp gn : Value) (w : World) (hh : HistAt w h pv nv) (hg : HistAt w g gp gn) :
    Calls Tryd.prog 71 #[histV h pv nv, histV g gp gn] w fun e w' => e = .returned (.bool (decide (alikeH h g))) ∧ Kept (fun _ => False) w w' := by
  obtain ⟨⟨ao, c, rfl⟩, bo, d, rfl⟩ := hh.sl
  obtain ⟨⟨a1, c1, rfl⟩, a2, c2, rfl⟩ := hg.sl
  obtain ⟨DE, hDE⟩ : ∃ b, b = decide (alikeH h g) := ⟨_, rfl⟩
  have hde : DE = decide (h.sc = g.sc ∧ h.po = g.po ∧ h.pl.length = g.pl.length ∧ h.no = g.no ∧ h.nl.length = g.nl.length) := hDE
  rw [← hDE]
  obtain ⟨pn, hpn⟩ : ∃ n, n = h.pl.length := ⟨_, rfl⟩
  obtain ⟨nn, hnn⟩ : ∃ n, n = h.nl.length := ⟨_, rfl⟩
  obtain ⟨gpn, hgpn⟩ : ∃ n, n = g.pl.length := ⟨_, rfl⟩
  obtain ⟨gnn, hgnn⟩ : ∃ n, n = g.nl.length := ⟨_, rfl⟩
  rw [← hpn, ← hnn, ← hgpn, ← hgnn] at hde
  obtain ⟨sc, ze, po, pl, no, nl⟩ := h
  obtain ⟨gsc, gze, gpo, gpl, gno, gnl⟩ := g
  unfold histV
  dsimp only at hde hpn hnn hgpn hgnn ⊢
  rw [← hpn, ← hnn, ← hgpn, ← hgnn]
  clear hh hg hDE hpn hnn hgpn hgnn
  have HK := Lib.hid (show Kept (fun _ => False) w ((w.alloc (.cells #[.int .i64 sc, .int .u64 (ze : Int), .int .i64 po, .slice ao pn c, .int .i64 no, .slice bo nn d] 62)).alloc (.cells #[.int .i64 gsc, .int .u64 (gze : Int), .int .i64 gpo, .slice a1 gpn c1, .int .i64 gno, .slice a2 gnn c2] 62)) from ((Kept.refl _ _).alloc _).alloc _)
  by_cases h1 : sc = gsc
  · have q1 : (sc == gsc) = true := beqT h1
    by_cases h2 : po = gpo
    · have q2 : (po == gpo) = true := beqT h2
      by_cases h4 : no = gno
      · have q4 : (no == gno) = true := beqT h4
        by_cases h3 : pn = gpn
        · have q3 : ((pn : Int) == (gpn : Int)) = true := beqT (by omega)
          by_cases h5 : nn = gnn
          · have q5 : ((nn : Int) == (gnn : Int)) = true := beqT (by omega)
            rw [decide_eq_true ⟨h1, h2, h3, h4, h5⟩] at hde
            have HD := Lib.hid hde
            clear h1 h2 h3 h4 h5 hde
            go_enter Tryd.func71, Tryd.ntmps71
            go_wp2
            go_ret
            exact ⟨by rw [HD.out]; rfl, HK.out⟩
          · have q5 : ((nn : Int) == (gnn : Int)) = false := beqF (by omega)
            rw [decide_eq_false (fun e => h5 e.2.2.2.2)] at hde
            have HD := Lib.hid hde
            clear h1 h2 h3 h4 h5 hde
            go_enter Tryd.func71, Tryd.ntmps71
            go_wp2
            go_ret
            exact ⟨by rw [HD.out]; rfl, HK.out⟩
        · have q3 : ((pn : Int) == (gpn : Int)) = false := beqF (by omega)
          rw [decide_eq_false (fun e => h3 e.2.2.1)] at hde
          have HD := Lib.hid hde
          clear h1 h2 h3 h4 hde
          go_enter Tryd.func71, Tryd.ntmps71
          go_wp2
          go_ret
          exact ⟨by rw [HD.out]; rfl, HK.out⟩
      · have q4 : (no == gno) = false := beqF h4
        rw [decide_eq_false (fun e => h4 e.2.2.2.1)] at hde
        have HD := Lib.hid hde
        clear h1 h2 h4 hde
        go_enter Tryd.func71, Tryd.ntmps71
        go_wp2
        go_ret
        exact ⟨by rw [HD.out]; rfl, HK.out⟩
    · have q2 : (po == gpo) = false := beqF h2
      rw [decide_eq_false (fun e => h2 e.2.1)] at hde
      have HD := Lib.hid hde
      clear h1 h2 hde
      go_enter Tryd.func71, Tryd.ntmps71
      go_wp2
      go_ret
      exact ⟨by rw [HD.out]; rfl, HK.out⟩
  · have q1 : (sc == gsc) = false := beqF h1
    rw [decide_eq_false (fun e => h1 e.1)] at hde
    have HD := Lib.hid hde
    clear h1 hde
    go_enter Tryd.func71, Tryd.ntmps71
    go_wp2
    go_ret
    exact ⟨by rw [HD.out]; rfl, HK.out⟩

set_option maxHeartbeats 2000000 in
theorem refAll_any (h : HistV) (pv nv : Value) (w : World) (ha : HistAt w h pv nv) (hp : h.pl.length ≤ 1000000) (hn : h.nl.length ≤ 1000000) :
    Calls Tryd.prog 72 #[histV h pv nv] w fun e w' => ∃ a c, e = .returned (.slice a (cntL h).length c) ∧ Mine w w' 28 (.slice a (cntL h).length c) (uvals (cntL h)) := by
  obtain ⟨⟨ao, c, rfl⟩, bo, d, rfl⟩ := ha.sl
  obtain ⟨sc, ze, po, pl, no, nl⟩ := h
  unfold histV
  simp only at hp hn ha ⊢
  have HA := Lib.hid ha
  have HL := Lib.hid (And.intro hp hn)
  have HCN := Lib.hid (show uvals (cntL ⟨sc, ze, po, pl, no, nl⟩) = [.int .u64 (ze : Int)] ++ uvals pl ++ uvals nl by unfold cntL uvals; simp)
  obtain ⟨w0, hw0⟩ : ∃ w0, w0 = w.alloc (.cells #[.int .i64 sc, .int .u64 (ze : Int), .int .i64 po, .slice ao pl.length c, .int .i64 no, .slice bo nl.length d] 62) := ⟨_, rfl⟩
  have HB := Lib.hid (show HistBox w0 w.heap.size ⟨sc, ze, po, pl, no, nl⟩ (.slice ao pl.length c) (.slice bo nl.length d) by rw [hw0]; exact hist_boxed w ⟨sc, ze, po, pl, no, nl⟩ _ _)
  have HK := Lib.hid (show Kept (fun _ => False) w w0 by rw [hw0]; exact (Kept.refl _ _).alloc _)
  have HW0 := Lib.hid hw0
  obtain ⟨q, hq⟩ : ∃ q, q = w.heap.size := ⟨_, rfl⟩
  have HQ := Lib.hid hq
  rw [← hq] at HB
  have HM0 := Lib.hid (show Mine w0 (w0.alloc (.cells #[.int .u64 (ze : Int)] 28)) 28 (.slice (some ⟨w0.heap.size, 0, none⟩) 1 1) [.int .u64 (ze : Int)] from ⟨own_freshZ w0 _ 1 [.int .u64 (ze : Int)] 1 rfl (by simp [maxLen]), (Kept.refl _ _).alloc _⟩)
  have HS1 := Lib.hid ((HA.out.p.kept (HK.out.alloc (.cells #[.int .u64 (ze : Int)] 28)) (fun _ _ x => x)).src (P := Tryd.prog) Tryd.underlying22 (uvals_one _))
  rw [uvals_length] at HS1
  clear ha hp hn hw0 hq
  obtain ⟨x0, x1, x2, x3, x4, x5⟩ := HB.out.c
  simp only at x0 x1 x2 x3 x4 x5
  have xa := fun o => ((Kept.refl (fun _ => False) w0).alloc o).cell x3 (fun x => x)
  go_enter Tryd.func72, Tryd.ntmps72
  go_upto_region 1 with fail
  rw [← HW0.out, ← HQ.out]
  go_upto_region 3 with (at_builtin; refine wpList_mineU rfl (.tmp 7) (.tmp 10) rfl w0 _ _ rfl HM0.out _ (uvals pl) rfl (by rw [uvals_length]; exact HS1.out) (by rw [uvals_length]; have := HL.out.1; simp; omega) ?_; intro v6 w6 hm6 hk6 _; obtain ⟨a6, c6, e6⟩ := hm6.slice; obtain ⟨n6, hn6⟩ : ∃ n, v6 = Value.slice a6 n c6 := ⟨_, e6⟩; subst hn6; have HM6 := Lib.hid hm6; have HB6 := Lib.hid (hm6.kept.same HB.out (fun x => x)); clear hm6 hk6 e6 x0 x1 x2 x3 x4 x5 xa)
  obtain ⟨x0, x1, x2, x3, x4, x5⟩ := HistBox.c (h := ⟨sc, ze, po, pl, no, nl⟩) HB6.out
  simp only at x0 x1 x2 x3 x4 x5
  have HS2 := Lib.hid ((HA.out.n.kept (HK.out.trans HM6.out.kept) (fun _ _ x => x)).src (P := Tryd.prog) Tryd.underlying22 (uvals_one _))
  rw [uvals_length] at HS2
  go_wp2_with (at_builtin; refine wpList_mineU rfl (.tmp 12) (.tmp 15) rfl w0 _ _ rfl HM6.out _ (uvals nl) rfl (by rw [uvals_length]; exact HS2.out) (by rw [List.length_append, uvals_length, uvals_length]; have := HL.out; simp; omega) ?_; intro v7 w7 hm7 hk7 _; have HM7 := Lib.hid hm7; clear hm7 hk7)
  go_ret
  have hm := HM7.out.down HK.out
  rw [← HCN.out] at hm
  obtain ⟨a7, c7, e7⟩ := hm.slice
  rw [uvals_length] at e7
  rw [e7] at hm ⊢
  exact ⟨a7, c7, rfl, hm⟩

/-- Bits that are answered in new memory. -/
def BitsTo (w : World) (l : List Bool) (e : Ending) (w' : World) : Prop := ∃ a c, e = .returned (.slice a l.length c) ∧ Mine w w' 3 (.slice a l.length c) (ints l)
theorem bitsTo_of {w w' : World} {l : List Bool} {v : Value} (h : w'.ownsRow w.heap.size 3 1 v l.length (ints l)) (hk : Kept (fun _ => False) w w') : BitsTo w l (.returned v) w' := by
  obtain ⟨a, c, rfl⟩ := ownsRow_slice h
  exact ⟨a, c, rfl, Mine.ofFresh h hk⟩
set_option maxHeartbeats 1000000 in
theorem refNum_any (x n : Nat) (hx : x < 1000000000) (hn : n ≤ 64) (w : World) :
    Calls Tryd.prog 73 #[.int .i64 (x : Int), .int .i64 (n : Int)] w (BitsTo w (bitsN x n)) := by
  have HR : Hid (Calls Tryd.prog 51 #[.int .u64 (x : Int), .int .i64 (n : Int)] w fun e w' => ∃ v b, e = .returned (.tuple #[v, .bool b]) ∧ w'.ownsRow w.heap.size 3 1 v n (ints (bitsN x n)) ∧ Kept (fun _ => False) w w') := Lib.hid ((refRow_any x (n : Int) (by omega) w).mono fun e w' h => by
    unfold RowOf at h
    rw [if_pos ⟨by omega, by omega⟩, Int.toNat_natCast] at h
    obtain ⟨v, h1, h2, h3⟩ := h
    exact ⟨v, _, h1, h2, h3⟩)
  have u1 : IntKind.u64.wrap (x : Int) = (x : Int) := by rw [IntKind.wrap_u64]; omega
  clear hx hn
  go_enter Tryd.func73, Tryd.ntmps73
  go_wp2_with fail
  refine HR.out.mono ?_
  rintro e w1 ⟨v, b, rfl, ho, hk⟩
  obtain ⟨a, c, rfl⟩ := ownsRow_slice ho
  have HB := Lib.hid (bitsTo_of (l := bitsN x n) (by rw [bitsN_length]; exact ho) hk)
  clear ho hk
  go_wp2
  go_ret
  exact HB.out

end Go.Proofs.YtjpnfadmblmjbaaDoor
/- package limnographref10: shape. -/
namespace Go.Proofs.YtjpnfadmblmjbaaDoor
open Go.RowKit
attribute [local go_sem ↓] Go.wp_at_zero Go.wp_at_succ

theorem bitsTo_mine {w w0 w' : World} {l : List Bool} {v : Value} (hk : Kept (fun _ => False) w w0) (m : Mine w0 w' 3 v (ints l)) : BitsTo w l (.returned v) w' := by
  obtain ⟨a, c, e⟩ := m.slice
  rw [ints_length] at e
  subst e
  exact ⟨a, c, rfl, m.down hk⟩
/-- The document's small form, in new memory. -/
theorem smallTo_any (v : Nat) (hv : v < 18446744073709551616) (w : World) :
    Calls Tryd.prog 14 #[.int .u64 v] w (BitsTo w (smallB v)) := by
  refine (small_any v hv w).mono ?_
  rintro e w' ⟨vs, rfl, ho, hk⟩
  exact bitsTo_of ho hk
theorem Mine.srcB {w w' : World} {a : Option Addr} {c : Nat} {l : List Bool} (m : Mine w w' 3 (.slice a l.length c) (ints l)) : Src Tryd.prog 1 26 (.slice a l.length c) (ints l).length (ints l) w' := m.at_.src Tryd.underlying26 (ints_one _)

set_option maxHeartbeats 4000000 in
set_option maxRecDepth 100000 in
theorem refShape_any (o : Int) (l : List Nat) (v : Value) (w : World) (hv : SlAt w v (uvals l)) (ho : I64 o) (hl : l.length ≤ 1000000) :
    Calls Tryd.prog 74 #[.agg #[.int .i64 o, v]] w (BitsTo w (sideB o l.length)) := by
  obtain ⟨ao, c, rfl, _, _⟩ := hv.val
  rw [uvals_length]
  clear hv
  have hz := zgN_eq o ho.1 ho.2
  obtain ⟨n, hn⟩ : ∃ n, n = l.length := ⟨_, rfl⟩
  rw [← hn] at hl ⊢
  clear hn
  have HZ := Lib.hid fun w => refZig_any o ho.1 ho.2 w
  rw [hz.1] at HZ
  have HSM := Lib.hid fun w => smallTo_any (zgN o) hz.2 w
  have HNU := Lib.hid fun w => refNum_any n 8 (by omega) (by omega) w
  have HSB := Lib.hid (show sideB o n = bitsN n 8 ++ (if n = 0 then [] else smallB (zgN o)) from rfl)
  have HSL := Lib.hid (smallB_len (zgN o))
  obtain ⟨Z, hZ⟩ : ∃ Z, Z = zgN o := ⟨_, rfl⟩
  rw [← hZ] at HZ HSM HSB HSL
  obtain ⟨w0, hw0⟩ : ∃ w0, w0 = w.alloc (.cells #[.int .i64 o, .slice ao n c] 60) := ⟨_, rfl⟩
  have HK0 := Lib.hid (show Kept (fun _ => False) w w0 by rw [hw0]; exact (Kept.refl _ _).alloc _)
  have HB0 := Lib.hid (show SideBox w0 w.heap.size o (.slice ao n c) by rw [hw0]; exact heap_alloc_new w _)
  have HW0 := Lib.hid hw0
  obtain ⟨q, hq⟩ : ∃ q, q = w.heap.size := ⟨_, rfl⟩
  rw [← hq] at HB0
  have HQ := Lib.hid hq
  clear hw0 hq hz hZ ho hl
  obtain ⟨⟨x0, x1⟩, _⟩ := HB0.out.c
  by_cases h0 : n = 0
  · have g0 : ¬ (0 : Int) < (n : Int) := by omega
    have HE := Lib.hid (show sideB o n = bitsN n 8 by rw [HSB.out, if_pos h0, List.append_nil])
    clear h0
    go_enter Tryd.func74, Tryd.ntmps74
    go_upto_region 1 with fail
    rw [← HW0.out, ← HQ.out]
    go_wp2_with fail
    refine (HNU.out w0).mono ?_
    rintro e w1 ⟨a1, c1, rfl, m1⟩
    have HM1 := Lib.hid m1
    obtain ⟨⟨y0, y1⟩, _⟩ := (SideBox.same HB0.out m1.kept (fun x => x)).c
    clear m1 x0 x1
    go_wp2
    go_ret
    rw [HE.out]
    exact bitsTo_mine HK0.out HM1.out
  · have g0 : (0 : Int) < (n : Int) := by omega
    have HE := Lib.hid (show sideB o n = bitsN n 8 ++ smallB Z by rw [HSB.out, if_neg h0])
    clear h0
    go_enter Tryd.func74, Tryd.ntmps74
    go_upto_region 1 with fail
    rw [← HW0.out, ← HQ.out]
    go_wp2_with fail
    refine (HNU.out w0).mono ?_
    rintro e w1 ⟨a1, c1, rfl, m1⟩
    have HM1 := Lib.hid m1
    obtain ⟨⟨y0, y1⟩, _⟩ := (SideBox.same HB0.out m1.kept (fun x => x)).c
    clear m1 x0 x1
    go_wp2_with fail
    refine (HZ.out w1).mono ?_
    rintro e w' ⟨rfl, rfl⟩
    go_wp2_with fail
    refine (HSM.out w1).mono ?_
    rintro e w2 ⟨a2, c2, rfl, m2⟩
    have HM2 := Lib.hid (HM1.out.on m2.kept)
    have HS2 := Lib.hid m2.srcB
    clear m2 y0 y1
    go_wp2_with (at_builtin; refine wpList_mineI rfl (.tmp 12) (.tmp 16) rfl w0 _ _ rfl HM2.out _ (ints (smallB Z)) rfl HS2.out (by rw [ints_length, ints_length, bitsN_length]; have := HSL.out; omega) ?_; intro v3 w3 hm3; have HM3 := Lib.hid hm3; clear hm3)
    go_ret
    rw [HE.out]
    have := HM3.out
    rw [← ints_append] at this
    exact bitsTo_mine HK0.out this
end Go.Proofs.YtjpnfadmblmjbaaDoor
