/- Texts put together: WX. -/
import Derived.Test.YtficodklidaheaaDoorZz24
import Derived.Test.YtficodklidaheaaDoorZz13
import Derived.Test.YtficodklidaheaaDoorZz25
/- Layer 20: the document's Load (written by tools/gen_XWX.py). -/
namespace Go.Proofs.YtficodklidaheaaDoor
open Go.RowKit
attribute [local go_sem ↓] Go.wp_at_zero Go.wp_at_succ

theorem got20_info : (Tryd.prog.info? 77).map (·.size) = some 3 := by kernel_rfl
theorem Kept.newer2 {S T : Nat → Prop} {w w1 w2 : World} (h : Kept S w w1) (k : Kept T w1 w2) (hT : ∀ j, T j → w.heap.size ≤ j) : Kept S w w2 :=
  ⟨k.os.trans h.os, k.tape.trans h.tape, k.output.trans h.output, Nat.le_trans h.size k.size, fun j hj hn => by
    rw [← h.block j hj hn]
    exact k.block j (Nat.lt_of_lt_of_le hj h.size) (fun t => by have := hT j t; omega)⟩
/-- What the document's Load answers and leaves. -/
def RefLoad (w : World) (rb : Nat) (ao : Option Addr) (L : List RF) (r : DA × List Nat × Bool × Int) (e : Ending) (w' : World) : Prop :=
  ∃ ao' cp' L' a c, e = .returned (.agg #[.slice a r.2.1.length c, .bool r.2.2.1, .int .i64 r.2.2.2]) ∧ RK w' rb ao' cp' L' r.1 ∧ Kept (fun k => k = rb) w w' ∧ RFoot w rb ao L ao' L' ∧ Row8 w' (.slice a r.2.1.length c) r.2.1
/-- The document's disk behind some calls, and the box of the answer. -/
def RBo (w : World) (q rb : Nat) (ao : Option Addr) (L : List RF) (D : DA) (w' : World) : Prop :=
  ∃ ao' cp' L', RK w' rb ao' cp' L' D ∧ Kept (fun k => k = rb) w w' ∧ RFoot w rb ao L ao' L' ∧ BoxAt w' q 77 #[.slice none 0 0, .bool false, .int .i64 0] ∧ (∀ k, rfoot rb ao' L' k → k ≠ q) ∧ w.heap.size ≤ q
theorem three_put {w : World} {q : Nat} {T : TypeId} {a b c x y z : Value} (h : BoxAt w q T #[a, b, c]) : BoxAt (((w.setCell ⟨q, 0, none⟩ x).setCell ⟨q, 1, none⟩ y).setCell ⟨q, 2, none⟩ z) q T #[x, y, z] := three_set h
theorem RBo.fin {w w' : World} {q rb : Nat} {ao : Option Addr} {L : List RF} {D : DA} (h : RBo w q rb ao L D w') (x y z : Value) :
    ∃ ao' cp' L', RK (((w'.setCell ⟨q, 0, none⟩ x).setCell ⟨q, 1, none⟩ y).setCell ⟨q, 2, none⟩ z) rb ao' cp' L' D ∧ Kept (fun k => k = rb) w (((w'.setCell ⟨q, 0, none⟩ x).setCell ⟨q, 1, none⟩ y).setCell ⟨q, 2, none⟩ z) ∧ RFoot w rb ao L ao' L' ∧
      BoxAt (((w'.setCell ⟨q, 0, none⟩ x).setCell ⟨q, 1, none⟩ y).setCell ⟨q, 2, none⟩ z) q 77 #[x, y, z] := by
  obtain ⟨a2, c2, L2, h1, h2, h3, h4, h5, h6⟩ := h
  have k : Kept (fun k => k = q) w' (((w'.setCell ⟨q, 0, none⟩ x).setCell ⟨q, 1, none⟩ y).setCell ⟨q, 2, none⟩ z) := ((kept_set _ _ _ _).trans (kept_set _ _ _ _)).trans (kept_set _ _ _ _)
  exact ⟨a2, c2, L2, h1.kept k (fun j f e => h5 j f e), Kept.newer2 h2 k (fun j e => by rw [e]; exact h6), h3, three_put h4⟩
theorem RBo.answer {w w' : World} {q rb : Nat} {ao : Option Addr} {L : List RF} {D : DA} (h : RBo w q rb ao L D w') (b : Bool) (z : Int) :
    RefLoad w rb ao L (D, [], b, z) (.returned (.agg #[.slice none 0 0, .bool b, .int .i64 z])) (((w'.setCell ⟨q, 0, none⟩ (.slice none 0 0)).setCell ⟨q, 1, none⟩ (.bool b)).setCell ⟨q, 2, none⟩ (.int .i64 z)) := by
  obtain ⟨a2, c2, L2, h1, h2, h3, _⟩ := h.fin (.slice none 0 0) (.bool b) (.int .i64 z)
  exact ⟨a2, c2, L2, none, 0, rfl, h1, h2, h3, row8_none _⟩
theorem RBo.on {w w1 w2 : World} {q rb : Nat} {ao : Option Addr} {L : List RF} {D : DA} (h : RBo w q rb ao L D w1) (k : Kept (fun _ => False) w1 w2) : RBo w q rb ao L D w2 := by
  obtain ⟨a2, c2, L2, h1, h2, h3, h4, h5, h6⟩ := h
  exact ⟨a2, c2, L2, h1.kept k (fun _ _ x => x), h2.trans (k.mono (fun _ _ x => x.elim)), h3, h4.kept k (fun x => x), h5, h6⟩

set_option maxRecDepth 100000 in
set_option maxHeartbeats 8000000 in
theorem refLoad_any (rb : Nat) (ao : Option Addr) (cp : Nat) (L : List RF) (D : DA) (s : ByteArray) (hs : s.size ≤ 1000) (w : World) (h : RK w rb ao cp L D) :
    Calls Tryd.prog 42 #[.pointer (some ⟨rb, 0, none⟩), .string s] w (RefLoad w rb ao L (loadD D s)) := by
  obtain ⟨wa, hwa⟩ : ∃ wa, wa = w.alloc (.cells #[.slice none 0 0, .bool false, .int .i64 0] 77) := ⟨_, rfl⟩
  have ka : Kept (fun _ => False) w wa := by rw [hwa]; exact (Kept.refl _ _).alloc _
  have HBX : Hid (BoxAt wa w.heap.size 77 #[.slice none 0 0, .bool false, .int .i64 0]) := Lib.hid (by rw [hwa]; exact BoxAt.new _ _ _)
  have HA := Lib.hid (h.kept ka (fun _ _ x => x))
  have HST : Hid (RBo w w.heap.size rb ao L D wa) := Lib.hid ⟨ao, cp, L, HA.out, ka.mono (fun _ _ x => x.elim), RFoot.refl _ _ _ _, HBX.out, fun k f e => by have := h.lt f; omega, Nat.le_refl _⟩
  have HNQ := Lib.hid (show ∀ k, rfoot rb ao L k → k ≠ w.heap.size from fun k f e => by have := h.lt f; omega)
  have HW := Lib.hid hwa
  have HKA := Lib.hid ka
  obtain ⟨nx, hnx⟩ : ∃ nx, nx = s ++ nwN := ⟨_, rfl⟩
  have qn : s ++ ({ data := #[46, 110, 101, 119] } : ByteArray) = nx := hnx.symm
  obtain ⟨R, hR⟩ : ∃ R, R = loadD D s := ⟨_, rfl⟩
  have HRR : Hid (R = if D.down = true then (D, [], false, 13) else if (tidyD D nx).2 = 0 then ((tidyD D nx).1, loadF (getM (tidyD D nx).1.L s)) else ((tidyD D nx).1, [], false, (tidyD D nx).2)) := Lib.hid (by rw [hR, hnx]; rfl)
  rw [← hR]
  have c2 := HA.out.c.2.2.1
  clear h hwa ka hnx hR
  cases hdn : D.down with
  | true =>
    rw [hdn] at c2
    have HX : Hid (R = (D, [], false, 13)) := Lib.hid (by rw [HRR.out, if_pos hdn])
    have HF := Lib.hid (HST.out.answer false 13)
    rw [← HX.out] at HF
    have HB3 := Lib.hid (three_put (x := .slice none 0 0) (y := .bool false) (z := .int .i64 13) HBX.out)
    have r0 := HBX.out.cell (i := 0) (u := .slice none 0 0) rfl
    have r1' := HBX.out.cell (i := 1) (u := .bool false) rfl
    have r2 := HBX.out.cell (i := 2) (u := .int .i64 0) rfl
    have f0 := BoxAt.fz HBX.out 0
    have f1 := BoxAt.fz HBX.out 1
    have f2 := BoxAt.fz HBX.out 2
    clear hdn
    go_enter Tryd.func42, Tryd.ntmps42
    go_upto_region 1 with fail
    rw [← HW.out]
    go_wp2
    refine bodyPost_ret (v := .agg #[.slice none 0 0, .bool false, .int .i64 13]) ?_ rfl ?_
    · exact results_cell_row Tryd.results42 _ _ w.heap.size 77 _ (0, 0) _ rfl HB3.out Tryd.underlying77 rfl got20_info
    · exact HF.out
  | false =>
    rw [hdn] at c2
    have HX : Hid (R = if (tidyD D nx).2 = 0 then ((tidyD D nx).1, loadF (getM (tidyD D nx).1.L s)) else ((tidyD D nx).1, [], false, (tidyD D nx).2)) := Lib.hid (by rw [HRR.out, if_neg (by rw [hdn]; exact Bool.false_ne_true)])
    have HDN := Lib.hid hdn
    have HFD := Lib.hid (refFind_any rb ao cp L D nx wa HA.out)
    clear hdn
    go_enter Tryd.func42, Tryd.ntmps42
    go_upto_region 1 with fail
    rw [← HW.out]
    go_wp2_with fail
    refine HFD.out.mono ?_
    rintro e w2 ⟨y, rfl, hy, rfl⟩
    rcases hy.get HA.out with ⟨rfl, hg⟩ | ⟨i, f, rfl, _, _, hg⟩
    · have e1 : tidyD D nx = (D, 0) := by unfold tidyD thereD; rw [HDN.out, hg]; rfl
      obtain ⟨D1, hD1⟩ : ∃ D1, D1 = D := ⟨_, rfl⟩
      have HX1 : Hid (R = (D1, loadF (getM D1.L s))) := Lib.hid (by rw [HX.out, e1, if_pos rfl, hD1])
      have HS1 : Hid (RBo w w.heap.size rb ao L D1 wa) := Lib.hid (by rw [hD1]; exact HST.out)
      clear hy hg e1 hD1
      obtain ⟨a4, c4, L4, h4, k4, f4, b4, n4, _⟩ := HS1.out
      have H4 := Lib.hid (And.intro h4 (And.intro b4 n4))
      have HFD2 := Lib.hid (refFind_any rb a4 c4 L4 D1 s wa h4)
      clear h4 k4 f4 b4 n4
      go_wp2_with fail
      refine HFD2.out.mono ?_
      rintro e w5 ⟨y, rfl, hy, rfl⟩
      rcases hy.get H4.out.1 with ⟨rfl, hg⟩ | ⟨i4, f, rfl, hf, _, hg⟩
      · have HXE : Hid (R = (D1, [], false, 0)) := Lib.hid (by rw [HX1.out, hg]; rfl)
        have HF := Lib.hid (HS1.out.answer false 0)
        rw [← HXE.out] at HF
        have HB3 := Lib.hid (three_put (x := .slice none 0 0) (y := .bool false) (z := .int .i64 0) H4.out.2.1)
        have r0 := H4.out.2.1.cell (i := 0) (u := .slice none 0 0) rfl
        have r1' := H4.out.2.1.cell (i := 1) (u := .bool false) rfl
        have r2 := H4.out.2.1.cell (i := 2) (u := .int .i64 0) rfl
        have f0 := BoxAt.fz H4.out.2.1 0
        have f1 := BoxAt.fz H4.out.2.1 1
        have f2 := BoxAt.fz H4.out.2.1 2
        clear hy hg
        go_wp2
        refine bodyPost_ret (v := .agg #[.slice none 0 0, .bool false, .int .i64 0]) ?_ rfl ?_
        · exact results_cell_row Tryd.results42 _ _ w.heap.size 77 _ (0, 0) _ rfl HB3.out Tryd.underlying77 rfl got20_info
        · exact HF.out
      · have HXE : Hid (R = (D1, if firstE f.b = 0 ∧ 9 + sizeL f.b = f.b.length then (payL f.b, true, 0) else ([], false, 15))) := Lib.hid (by rw [HX1.out, hg]; rfl)
        have hfm : f ∈ L4 := List.mem_of_getElem? hf
        have hi4 : i4 < L4.length := (List.getElem?_eq_some_iff.1 hf).1
        obtain ⟨gg, oo, hga, hgc⟩ := H4.out.1.row (by omega)
        have x1 := hgc i4 f hf 1 (.slice f.a f.b.length f.c) rfl
        have c0 := H4.out.1.c.1
        have hfb : ∀ x ∈ f.b, x < 256 := H4.out.1.ok.byte (s, ⟨f.b, f.s⟩) (getM_mem hg)
        have hfl : f.b.length ≤ 1000000000 := by
          have h1 := usedL_del H4.out.1.ok.asc.pair s
          rw [hg] at h1
          have h2 := H4.out.1.ok.used
          have h3 := H4.out.1.ok.capR
          have h5 : szM (some (⟨f.b, f.s⟩ : PF)) = f.b.length := rfl
          omega
        have HDT := Lib.hid (fun w' (ao' : Option Addr) (cp' : Nat) (h' : RK w' rb ao' cp' L4 D1) => slAt_row8 (h'.data f hfm).1 hfb)
        have HFI := Lib.hid (refFirst_any f.a f.c f.b 0 hfl (H4.out.1.data f hfm).2 (Nat.zero_le _) wa (slAt_row8 (H4.out.1.data f hfm).1 hfb))
        rw [List.drop_zero, show (((0 : Nat) : Int)) = 0 from rfl] at HFI
        obtain ⟨n4, hn4⟩ : ∃ n, n = L4.length := ⟨_, rfl⟩
        rw [← hn4] at c0
        have p0 : (0 : Int) ≤ (i4 : Int) := by omega
        have p1 : (i4 : Int) < (n4 : Int) := by omega
        obtain ⟨m, hm⟩ : ∃ m, m = f.b.length := ⟨_, rfl⟩
        have HM := Lib.hid hm
        obtain ⟨fa, hfa⟩ : ∃ x, x = f.a := ⟨_, rfl⟩
        obtain ⟨fc, hfc⟩ : ∃ x, x = f.c := ⟨_, rfl⟩
        rw [← hm, ← hfa, ← hfc] at x1 HFI
        have HV := Lib.hid (And.intro hfa hfc)
        subst hga
        clear hy hg hf hi4 hgc hfb hfl hn4 hm hfa hfc hfm
        go_wp2_with fail
        refine HFI.out.mono ?_
        rintro e w6 hgot
        unfold RefGot at hgot
        by_cases he : firstE f.b = 0
        · rw [if_pos he] at hgot
          obtain ⟨pa, pc, rfl, hpay, k6⟩ := hgot
          have hsz := firstE_size f.b he
          have hpl : (payL f.b).length = sizeL f.b := by unfold payL; rw [List.length_take, List.length_drop]; omega
          have HPL := Lib.hid hpl
          have HHE := Lib.hid (And.intro he hpay)
          obtain ⟨sz, hsz2⟩ : ∃ x, x = sizeL f.b := ⟨_, rfl⟩
          obtain ⟨nn, hnn⟩ : ∃ x, x = 9 + sizeL f.b := ⟨_, rfl⟩
          rw [← hnn, ← hsz2]
          have HSZ2 := Lib.hid (And.intro hsz2 hnn)
          obtain ⟨w7, hw7⟩ : ∃ w7, w7 = w6.alloc (.cells #[.slice pa sz pc, .int .i64 ((nn : Nat) : Int), .int .i64 0] 28) := ⟨_, rfl⟩
          obtain ⟨g7, hg7⟩ : ∃ g, g = w6.heap.size := ⟨_, rfl⟩
          have k7 : Kept (fun _ => False) w6 w7 := by rw [hw7]; exact (Kept.refl _ _).alloc _
          have B7 : BoxAt w7 g7 28 #[.slice pa sz pc, .int .i64 ((nn : Nat) : Int), .int .i64 0] := by rw [hw7, hg7]; exact BoxAt.new _ _ _
          have HW7 := Lib.hid (And.intro hw7 hg7)
          have HK7 := Lib.hid (k6.trans k7)
          have HS7 : Hid (RBo w w.heap.size rb ao L D1 w7) := Lib.hid (HS1.out.on HK7.out)
          have HR7 := Lib.hid (And.intro (H4.out.1.kept HK7.out (fun _ _ x => x)) (H4.out.2.1.kept HK7.out (fun x => x)))
          have y0 := B7.cell (i := 0) (u := .slice pa sz pc) rfl
          have y1 := B7.cell (i := 1) (u := .int .i64 ((nn : Nat) : Int)) rfl
          have y2 := B7.cell (i := 2) (u := .int .i64 0) rfl
          have r0 := HR7.out.2.cell (i := 0) (u := .slice none 0 0) rfl
          have r1' := HR7.out.2.cell (i := 1) (u := .bool false) rfl
          have r2 := HR7.out.2.cell (i := 2) (u := .int .i64 0) rfl
          have f0 := BoxAt.fz HR7.out.2 0
          have f1 := BoxAt.fz HR7.out.2 1
          have f2 := BoxAt.fz HR7.out.2 2
          clear he hpay k6 hsz hpl hsz2 hnn hw7 hg7 k7 B7
          by_cases hnm : nn = m
          · have qn2 : ((nn : Int) != (m : Int)) = false := by rw [hnm]; simp
            have HF : Hid (RefLoad w rb ao L R (.returned (.agg #[.slice pa sz pc, .bool true, .int .i64 0])) (((w7.setCell ⟨w.heap.size, 0, none⟩ (.slice pa sz pc)).setCell ⟨w.heap.size, 1, none⟩ (.bool true)).setCell ⟨w.heap.size, 2, none⟩ (.int .i64 0))) := Lib.hid (by
              rw [HXE.out, if_pos ⟨HHE.out.1, by rw [← HSZ2.out.2, hnm, HM.out]⟩]
              have kq : Kept (fun k => k = w.heap.size) w7 (((w7.setCell ⟨w.heap.size, 0, none⟩ (.slice pa sz pc)).setCell ⟨w.heap.size, 1, none⟩ (.bool true)).setCell ⟨w.heap.size, 2, none⟩ (.int .i64 0)) := ((kept_set _ _ _ _).trans (kept_set _ _ _ _)).trans (kept_set _ _ _ _)
              have hrk := HR7.out.1.kept kq (fun j x e => H4.out.2.2 j x e)
              obtain ⟨_, _, _, _, hk, hff, _⟩ := HS1.out
              obtain ⟨a8, c8, L8, h8, k8, f8, _⟩ := HS7.out.fin (.slice pa sz pc) (.bool true) (.int .i64 0)
              have hdt := HDT.out _ _ _ hrk
              unfold RF.v at hdt
              rw [← HV.out.1, ← HV.out.2, ← HM.out] at hdt
              have hrow := HHE.out.2 _ hdt
              rw [← HSZ2.out.1] at hrow
              refine ⟨a8, c8, L8, pa, pc, by rw [HPL.out, ← HSZ2.out.1], h8, k8, f8, ?_⟩
              rw [HPL.out, ← HSZ2.out.1]
              exact hrow)
            have HB3 := Lib.hid (three_put (x := .slice pa sz pc) (y := .bool true) (z := .int .i64 0) HR7.out.2)
            clear hnm
            go_upto_region 12 with fail
            rw [← HW7.out.1, ← HW7.out.2]
            go_wp2
            refine bodyPost_ret (v := .agg #[.slice pa sz pc, .bool true, .int .i64 0]) ?_ rfl ?_
            · exact results_cell_row Tryd.results42 _ _ w.heap.size 77 _ (0, 0) _ rfl HB3.out Tryd.underlying77 rfl got20_info
            · exact HF.out
          · have qn2 : ((nn : Int) != (m : Int)) = true := by
              have : ((nn : Int) == (m : Int)) = false := beq_eq_false_iff_ne.2 (by omega)
              simp [bne, this]
            have HF := Lib.hid (HS7.out.answer false 15)
            have HXB : Hid (R = (D1, [], false, 15)) := Lib.hid (by rw [HXE.out, if_neg (fun e => hnm (by rw [HSZ2.out.2, e.2, HM.out]))])
            rw [← HXB.out] at HF
            have HB3 := Lib.hid (three_put (x := .slice none 0 0) (y := .bool false) (z := .int .i64 15) HR7.out.2)
            clear hnm
            go_upto_region 12 with fail
            rw [← HW7.out.1, ← HW7.out.2]
            go_wp2
            refine bodyPost_ret (v := .agg #[.slice none 0 0, .bool false, .int .i64 15]) ?_ rfl ?_
            · exact results_cell_row Tryd.results42 _ _ w.heap.size 77 _ (0, 0) _ rfl HB3.out Tryd.underlying77 rfl got20_info
            · exact HF.out
        · rw [if_neg he] at hgot
          obtain ⟨rfl, k6⟩ := hgot
          obtain ⟨en, hen⟩ : ∃ x : Int, x = ((firstE f.b : Nat) : Int) := ⟨_, rfl⟩
          have qe : (en != 0) = true := by
            have : (en == 0) = false := beq_eq_false_iff_ne.2 (by omega)
            simp [bne, this]
          rw [← hen]
          obtain ⟨w7, hw7⟩ : ∃ w7, w7 = w6.alloc (.cells #[.slice none 0 0, .int .i64 0, .int .i64 en] 28) := ⟨_, rfl⟩
          obtain ⟨g7, hg7⟩ : ∃ g, g = w6.heap.size := ⟨_, rfl⟩
          have k7 : Kept (fun _ => False) w6 w7 := by rw [hw7]; exact (Kept.refl _ _).alloc _
          have B7 : BoxAt w7 g7 28 #[.slice none 0 0, .int .i64 0, .int .i64 en] := by rw [hw7, hg7]; exact BoxAt.new _ _ _
          have HW7 := Lib.hid (And.intro hw7 hg7)
          have HS7 : Hid (RBo w w.heap.size rb ao L D1 w7) := Lib.hid (HS1.out.on (k6.trans k7))
          have HR7 := Lib.hid (H4.out.2.1.kept (k6.trans k7) (fun x => x))
          have y2 := B7.cell (i := 2) (u := .int .i64 en) rfl
          have r0 := HR7.out.cell (i := 0) (u := .slice none 0 0) rfl
          have r1' := HR7.out.cell (i := 1) (u := .bool false) rfl
          have r2 := HR7.out.cell (i := 2) (u := .int .i64 0) rfl
          have f0 := BoxAt.fz HR7.out 0
          have f1 := BoxAt.fz HR7.out 1
          have f2 := BoxAt.fz HR7.out 2
          have HF := Lib.hid (HS7.out.answer false 15)
          have HXB : Hid (R = (D1, [], false, 15)) := Lib.hid (by rw [HXE.out, if_neg (fun e => he e.1)])
          rw [← HXB.out] at HF
          have HB3 := Lib.hid (three_put (x := .slice none 0 0) (y := .bool false) (z := .int .i64 15) HR7.out)
          clear he k6 hen hw7 hg7 k7 B7
          go_upto_region 12 with fail
          rw [← HW7.out.1, ← HW7.out.2]
          go_wp2
          refine bodyPost_ret (v := .agg #[.slice none 0 0, .bool false, .int .i64 15]) ?_ rfl ?_
          · exact results_cell_row Tryd.results42 _ _ w.heap.size 77 _ (0, 0) _ rfl HB3.out Tryd.underlying77 rfl got20_info
          · exact HF.out
    · have e1 : tidyD D nx = removeD D nx := by unfold tidyD thereD; rw [HDN.out, hg]; rfl
      have HC1 := Lib.hid (refRemove_any rb ao cp L D nx wa HA.out)
      rw [← e1] at HC1
      obtain ⟨r, hr⟩ : ∃ r, r = tidyD D nx := ⟨_, rfl⟩
      rw [← hr] at HC1 HX
      have hi0 : (0 : Int) ≤ (i : Int) := by omega
      clear hy hg e1 hr
      go_wp2_with fail
      refine HC1.out.mono ?_
      rintro e w3 ⟨a3, c3, L3, rfl, h3, k3, f3⟩
      have hqr : w.heap.size ≠ rb := fun e => by
        have h1 := HA.out.box
        have h2 := HBX.out
        unfold BoxAt at h1 h2
        rw [e, h1] at h2
        injection h2 with h2
        simp at h2
      have HS3 : Hid (RBo w w.heap.size rb ao L r.1 w3) := Lib.hid ⟨a3, c3, L3, h3, (HKA.out.mono (fun _ _ x => x.elim)).trans k3, fun j x => by
          rcases f3 j x with y | y
          · exact .inl y
          · exact .inr (Nat.le_trans HKA.out.size y), HBX.out.kept k3 (fun e => hqr e), fun k x e => by
          rcases f3 k x with y | y
          · exact HNQ.out k y e
          · have := HBX.out.lt; omega, Nat.le_refl _⟩
      obtain ⟨z, hz⟩ : ∃ z : Int, z = r.2 := ⟨_, rfl⟩
      rw [← hz] at HX ⊢
      clear h3 k3 f3 hqr hz
      by_cases h0 : z = 0
      · subst h0
        obtain ⟨D1, hD1⟩ : ∃ D1, D1 = r.1 := ⟨_, rfl⟩
        have HX1 : Hid (R = (D1, loadF (getM D1.L s))) := Lib.hid (by rw [HX.out, if_pos rfl, hD1])
        have HS1 : Hid (RBo w w.heap.size rb ao L D1 w3) := Lib.hid (by rw [hD1]; exact HS3.out)
        clear hD1
        obtain ⟨a4, c4, L4, h4, k4, f4, b4, n4, _⟩ := HS1.out
        have H4 := Lib.hid (And.intro h4 (And.intro b4 n4))
        have HFD2 := Lib.hid (refFind_any rb a4 c4 L4 D1 s w3 h4)
        clear h4 k4 f4 b4 n4
        go_wp2_with fail
        refine HFD2.out.mono ?_
        rintro e w5 ⟨y, rfl, hy, rfl⟩
        rcases hy.get H4.out.1 with ⟨rfl, hg⟩ | ⟨i4, f, rfl, hf, _, hg⟩
        · have HXE : Hid (R = (D1, [], false, 0)) := Lib.hid (by rw [HX1.out, hg]; rfl)
          have HF := Lib.hid (HS1.out.answer false 0)
          rw [← HXE.out] at HF
          have HB3 := Lib.hid (three_put (x := .slice none 0 0) (y := .bool false) (z := .int .i64 0) H4.out.2.1)
          have r0 := H4.out.2.1.cell (i := 0) (u := .slice none 0 0) rfl
          have r1' := H4.out.2.1.cell (i := 1) (u := .bool false) rfl
          have r2 := H4.out.2.1.cell (i := 2) (u := .int .i64 0) rfl
          have f0 := BoxAt.fz H4.out.2.1 0
          have f1 := BoxAt.fz H4.out.2.1 1
          have f2 := BoxAt.fz H4.out.2.1 2
          clear hy hg
          go_wp2
          refine bodyPost_ret (v := .agg #[.slice none 0 0, .bool false, .int .i64 0]) ?_ rfl ?_
          · exact results_cell_row Tryd.results42 _ _ w.heap.size 77 _ (0, 0) _ rfl HB3.out Tryd.underlying77 rfl got20_info
          · exact HF.out
        · have HXE : Hid (R = (D1, if firstE f.b = 0 ∧ 9 + sizeL f.b = f.b.length then (payL f.b, true, 0) else ([], false, 15))) := Lib.hid (by rw [HX1.out, hg]; rfl)
          have hfm : f ∈ L4 := List.mem_of_getElem? hf
          have hi4 : i4 < L4.length := (List.getElem?_eq_some_iff.1 hf).1
          obtain ⟨gg, oo, hga, hgc⟩ := H4.out.1.row (by omega)
          have x1 := hgc i4 f hf 1 (.slice f.a f.b.length f.c) rfl
          have c0 := H4.out.1.c.1
          have hfb : ∀ x ∈ f.b, x < 256 := H4.out.1.ok.byte (s, ⟨f.b, f.s⟩) (getM_mem hg)
          have hfl : f.b.length ≤ 1000000000 := by
            have h1 := usedL_del H4.out.1.ok.asc.pair s
            rw [hg] at h1
            have h2 := H4.out.1.ok.used
            have h3 := H4.out.1.ok.capR
            have h5 : szM (some (⟨f.b, f.s⟩ : PF)) = f.b.length := rfl
            omega
          have HDT := Lib.hid (fun w' (ao' : Option Addr) (cp' : Nat) (h' : RK w' rb ao' cp' L4 D1) => slAt_row8 (h'.data f hfm).1 hfb)
          have HFI := Lib.hid (refFirst_any f.a f.c f.b 0 hfl (H4.out.1.data f hfm).2 (Nat.zero_le _) w3 (slAt_row8 (H4.out.1.data f hfm).1 hfb))
          rw [List.drop_zero, show (((0 : Nat) : Int)) = 0 from rfl] at HFI
          obtain ⟨n4, hn4⟩ : ∃ n, n = L4.length := ⟨_, rfl⟩
          rw [← hn4] at c0
          have p0 : (0 : Int) ≤ (i4 : Int) := by omega
          have p1 : (i4 : Int) < (n4 : Int) := by omega
          obtain ⟨m, hm⟩ : ∃ m, m = f.b.length := ⟨_, rfl⟩
          have HM := Lib.hid hm
          obtain ⟨fa, hfa⟩ : ∃ x, x = f.a := ⟨_, rfl⟩
          obtain ⟨fc, hfc⟩ : ∃ x, x = f.c := ⟨_, rfl⟩
          rw [← hm, ← hfa, ← hfc] at x1 HFI
          have HV := Lib.hid (And.intro hfa hfc)
          subst hga
          clear hy hg hf hi4 hgc hfb hfl hn4 hm hfa hfc hfm
          go_wp2_with fail
          refine HFI.out.mono ?_
          rintro e w6 hgot
          unfold RefGot at hgot
          by_cases he : firstE f.b = 0
          · rw [if_pos he] at hgot
            obtain ⟨pa, pc, rfl, hpay, k6⟩ := hgot
            have hsz := firstE_size f.b he
            have hpl : (payL f.b).length = sizeL f.b := by unfold payL; rw [List.length_take, List.length_drop]; omega
            have HPL := Lib.hid hpl
            have HHE := Lib.hid (And.intro he hpay)
            obtain ⟨sz, hsz2⟩ : ∃ x, x = sizeL f.b := ⟨_, rfl⟩
            obtain ⟨nn, hnn⟩ : ∃ x, x = 9 + sizeL f.b := ⟨_, rfl⟩
            rw [← hnn, ← hsz2]
            have HSZ2 := Lib.hid (And.intro hsz2 hnn)
            obtain ⟨w7, hw7⟩ : ∃ w7, w7 = w6.alloc (.cells #[.slice pa sz pc, .int .i64 ((nn : Nat) : Int), .int .i64 0] 28) := ⟨_, rfl⟩
            obtain ⟨g7, hg7⟩ : ∃ g, g = w6.heap.size := ⟨_, rfl⟩
            have k7 : Kept (fun _ => False) w6 w7 := by rw [hw7]; exact (Kept.refl _ _).alloc _
            have B7 : BoxAt w7 g7 28 #[.slice pa sz pc, .int .i64 ((nn : Nat) : Int), .int .i64 0] := by rw [hw7, hg7]; exact BoxAt.new _ _ _
            have HW7 := Lib.hid (And.intro hw7 hg7)
            have HK7 := Lib.hid (k6.trans k7)
            have HS7 : Hid (RBo w w.heap.size rb ao L D1 w7) := Lib.hid (HS1.out.on HK7.out)
            have HR7 := Lib.hid (And.intro (H4.out.1.kept HK7.out (fun _ _ x => x)) (H4.out.2.1.kept HK7.out (fun x => x)))
            have y0 := B7.cell (i := 0) (u := .slice pa sz pc) rfl
            have y1 := B7.cell (i := 1) (u := .int .i64 ((nn : Nat) : Int)) rfl
            have y2 := B7.cell (i := 2) (u := .int .i64 0) rfl
            have r0 := HR7.out.2.cell (i := 0) (u := .slice none 0 0) rfl
            have r1' := HR7.out.2.cell (i := 1) (u := .bool false) rfl
            have r2 := HR7.out.2.cell (i := 2) (u := .int .i64 0) rfl
            have f0 := BoxAt.fz HR7.out.2 0
            have f1 := BoxAt.fz HR7.out.2 1
            have f2 := BoxAt.fz HR7.out.2 2
            clear he hpay k6 hsz hpl hsz2 hnn hw7 hg7 k7 B7
            by_cases hnm : nn = m
            · have qn2 : ((nn : Int) != (m : Int)) = false := by rw [hnm]; simp
              have HF : Hid (RefLoad w rb ao L R (.returned (.agg #[.slice pa sz pc, .bool true, .int .i64 0])) (((w7.setCell ⟨w.heap.size, 0, none⟩ (.slice pa sz pc)).setCell ⟨w.heap.size, 1, none⟩ (.bool true)).setCell ⟨w.heap.size, 2, none⟩ (.int .i64 0))) := Lib.hid (by
                rw [HXE.out, if_pos ⟨HHE.out.1, by rw [← HSZ2.out.2, hnm, HM.out]⟩]
                have kq : Kept (fun k => k = w.heap.size) w7 (((w7.setCell ⟨w.heap.size, 0, none⟩ (.slice pa sz pc)).setCell ⟨w.heap.size, 1, none⟩ (.bool true)).setCell ⟨w.heap.size, 2, none⟩ (.int .i64 0)) := ((kept_set _ _ _ _).trans (kept_set _ _ _ _)).trans (kept_set _ _ _ _)
                have hrk := HR7.out.1.kept kq (fun j x e => H4.out.2.2 j x e)
                obtain ⟨_, _, _, _, hk, hff, _⟩ := HS1.out
                obtain ⟨a8, c8, L8, h8, k8, f8, _⟩ := HS7.out.fin (.slice pa sz pc) (.bool true) (.int .i64 0)
                have hdt := HDT.out _ _ _ hrk
                unfold RF.v at hdt
                rw [← HV.out.1, ← HV.out.2, ← HM.out] at hdt
                have hrow := HHE.out.2 _ hdt
                rw [← HSZ2.out.1] at hrow
                refine ⟨a8, c8, L8, pa, pc, by rw [HPL.out, ← HSZ2.out.1], h8, k8, f8, ?_⟩
                rw [HPL.out, ← HSZ2.out.1]
                exact hrow)
              have HB3 := Lib.hid (three_put (x := .slice pa sz pc) (y := .bool true) (z := .int .i64 0) HR7.out.2)
              clear hnm
              go_upto_region 12 with fail
              rw [← HW7.out.1, ← HW7.out.2]
              go_wp2
              refine bodyPost_ret (v := .agg #[.slice pa sz pc, .bool true, .int .i64 0]) ?_ rfl ?_
              · exact results_cell_row Tryd.results42 _ _ w.heap.size 77 _ (0, 0) _ rfl HB3.out Tryd.underlying77 rfl got20_info
              · exact HF.out
            · have qn2 : ((nn : Int) != (m : Int)) = true := by
                have : ((nn : Int) == (m : Int)) = false := beq_eq_false_iff_ne.2 (by omega)
                simp [bne, this]
              have HF := Lib.hid (HS7.out.answer false 15)
              have HXB : Hid (R = (D1, [], false, 15)) := Lib.hid (by rw [HXE.out, if_neg (fun e => hnm (by rw [HSZ2.out.2, e.2, HM.out]))])
              rw [← HXB.out] at HF
              have HB3 := Lib.hid (three_put (x := .slice none 0 0) (y := .bool false) (z := .int .i64 15) HR7.out.2)
              clear hnm
              go_upto_region 12 with fail
              rw [← HW7.out.1, ← HW7.out.2]
              go_wp2
              refine bodyPost_ret (v := .agg #[.slice none 0 0, .bool false, .int .i64 15]) ?_ rfl ?_
              · exact results_cell_row Tryd.results42 _ _ w.heap.size 77 _ (0, 0) _ rfl HB3.out Tryd.underlying77 rfl got20_info
              · exact HF.out
          · rw [if_neg he] at hgot
            obtain ⟨rfl, k6⟩ := hgot
            obtain ⟨en, hen⟩ : ∃ x : Int, x = ((firstE f.b : Nat) : Int) := ⟨_, rfl⟩
            have qe : (en != 0) = true := by
              have : (en == 0) = false := beq_eq_false_iff_ne.2 (by omega)
              simp [bne, this]
            rw [← hen]
            obtain ⟨w7, hw7⟩ : ∃ w7, w7 = w6.alloc (.cells #[.slice none 0 0, .int .i64 0, .int .i64 en] 28) := ⟨_, rfl⟩
            obtain ⟨g7, hg7⟩ : ∃ g, g = w6.heap.size := ⟨_, rfl⟩
            have k7 : Kept (fun _ => False) w6 w7 := by rw [hw7]; exact (Kept.refl _ _).alloc _
            have B7 : BoxAt w7 g7 28 #[.slice none 0 0, .int .i64 0, .int .i64 en] := by rw [hw7, hg7]; exact BoxAt.new _ _ _
            have HW7 := Lib.hid (And.intro hw7 hg7)
            have HS7 : Hid (RBo w w.heap.size rb ao L D1 w7) := Lib.hid (HS1.out.on (k6.trans k7))
            have HR7 := Lib.hid (H4.out.2.1.kept (k6.trans k7) (fun x => x))
            have y2 := B7.cell (i := 2) (u := .int .i64 en) rfl
            have r0 := HR7.out.cell (i := 0) (u := .slice none 0 0) rfl
            have r1' := HR7.out.cell (i := 1) (u := .bool false) rfl
            have r2 := HR7.out.cell (i := 2) (u := .int .i64 0) rfl
            have f0 := BoxAt.fz HR7.out 0
            have f1 := BoxAt.fz HR7.out 1
            have f2 := BoxAt.fz HR7.out 2
            have HF := Lib.hid (HS7.out.answer false 15)
            have HXB : Hid (R = (D1, [], false, 15)) := Lib.hid (by rw [HXE.out, if_neg (fun e => he e.1)])
            rw [← HXB.out] at HF
            have HB3 := Lib.hid (three_put (x := .slice none 0 0) (y := .bool false) (z := .int .i64 15) HR7.out)
            clear he k6 hen hw7 hg7 k7 B7
            go_upto_region 12 with fail
            rw [← HW7.out.1, ← HW7.out.2]
            go_wp2
            refine bodyPost_ret (v := .agg #[.slice none 0 0, .bool false, .int .i64 15]) ?_ rfl ?_
            · exact results_cell_row Tryd.results42 _ _ w.heap.size 77 _ (0, 0) _ rfl HB3.out Tryd.underlying77 rfl got20_info
            · exact HF.out
      · have q0 : (z != 0) = true := by simp [bne, beq_eq_false_iff_ne.2 h0]
        have HXE : Hid (R = (r.1, [], false, z)) := Lib.hid (by rw [HX.out, if_neg h0])
        have HF := Lib.hid (HS3.out.answer false z)
        rw [← HXE.out] at HF
        obtain ⟨_, _, _, _, _, _, hb3, _⟩ := HS3.out
        have HB0 := Lib.hid hb3
        have HB3 := Lib.hid (three_put (x := .slice none 0 0) (y := .bool false) (z := .int .i64 z) hb3)
        have r0 := HB0.out.cell (i := 0) (u := .slice none 0 0) rfl
        have r1' := HB0.out.cell (i := 1) (u := .bool false) rfl
        have r2 := HB0.out.cell (i := 2) (u := .int .i64 0) rfl
        have f0 := BoxAt.fz HB0.out 0
        have f1 := BoxAt.fz HB0.out 1
        have f2 := BoxAt.fz HB0.out 2
        clear h0 hb3
        go_wp2
        refine bodyPost_ret (v := .agg #[.slice none 0 0, .bool false, .int .i64 z]) ?_ rfl ?_
        · exact results_cell_row Tryd.results42 _ _ w.heap.size 77 _ (0, 0) _ rfl HB3.out Tryd.underlying77 rfl got20_info
        · exact HF.out
end Go.Proofs.YtficodklidaheaaDoor
