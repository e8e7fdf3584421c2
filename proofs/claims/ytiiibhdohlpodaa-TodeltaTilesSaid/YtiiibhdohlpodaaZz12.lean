/- Texts put together: what the theorem stands on. -/
import Derived.Test.YtiiibhdohlpodaaZz6
import Derived.Test.YtiiibhdohlpodaaZz10
import Derived.Test.YtiiibhdohlpodaaZz11

namespace Go.Proofs.Ytiiibhdohlpodaa
open Go.RowKit
attribute [local go_sem ↓] Go.wp_at_zero Go.wp_at_succ
/-- The boxes of lessFloat: the state, the point, the answer. -/
structure LB (w : World) (q : Nat) (CS CX : Array Value) : Prop where
  bs : w.heap[q]? = some (.cells CS 32 (0, 0))
  bx : w.heap[q + 1]? = some (.cells CX 37 (0, 0))
  bz : w.heap[q + 1 + 1]? = some (.cells #[.string { data := #[] }, .slice none 0 0, .int .i64 0, .int .i64 0, .bool false, .int .i64 0, .int .i64 0, .int .i64 0, .int .u64 0, .int .u64 0, .int .i64 0, .int .u64 0, .int .i64 0, .slice none 0 0, .int .i64 0, .slice none 0 0, .int .i64 0] 37 (0, 0))
section
variable {w w' : World} {q : Nat} {CS CX CX' : Array Value}
theorem LB.on (h : LB w q CS CX) (k : Kept (fun _ => False) w w') : LB w' q CS CX := ⟨k.same h.bs (fun x => x), k.same h.bx (fun x => x), k.same h.bz (fun x => x)⟩
theorem LB.putX (h : LB w q CS CX) (i : Nat) (v : Value) (e : CX.setIfInBounds i v = CX') : LB (w.setCell ⟨q + 1, i, none⟩ v) q CS CX' ∧ Kept (fun k => k = q + 1) w (w.setCell ⟨q + 1, i, none⟩ v) :=
  have kk := (Kept.refl (fun k => k = q + 1) w).setCell (p := ⟨q + 1, i, none⟩) (fun _ => rfl) v
  ⟨⟨kk.same h.bs (by omega), by rw [← e]; exact heap_setCell_same _ _ i _ _ _ h.bx, kk.same h.bz (by omega)⟩, kk⟩
end
theorem fin15_2 (g : Nat) (a b : Int) (w : World) (hr : URow w (some ⟨g, 0, none⟩) [a, b]) (ha : U64I a) (hb : U64I b) :
    Calls Try.prog 110 #[.slice (some ⟨g, 0, none⟩) 2 2] w fun e w' => e = .returned (.bool (finI a && finI b)) ∧ Kept (fun _ => False) w w' := by
  have h := finAll15_any (some ⟨g, 0, none⟩) 2 [a, b] w hr (by intro x hx; simp at hx; rcases hx with rfl | rfl <;> assumption) (by simp)
  simpa using h
theorem fin15_4 (g : Nat) (a b c d : Int) (w : World) (hr : URow w (some ⟨g, 0, none⟩) [a, b, c, d]) (ha : U64I a) (hb : U64I b) (hc : U64I c) (hd : U64I d) :
    Calls Try.prog 110 #[.slice (some ⟨g, 0, none⟩) 4 4] w fun e w' => e = .returned (.bool (fin4 a b c d)) ∧ Kept (fun _ => False) w w' := by
  have h := finAll15_any (some ⟨g, 0, none⟩) 4 [a, b, c, d] w hr (by intro x hx; simp at hx; rcases hx with rfl | rfl | rfl | rfl <;> assumption) (by simp)
  have e : [a, b, c, d].all finI = fin4 a b c d := by unfold fin4; simp [Bool.and_assoc]
  rw [e] at h
  exact h
set_option maxHeartbeats 4000000 in
set_option maxRecDepth 100000 in
theorem lessFloat_any (s : StV) (sp sn : Value) (x : Pnt) (av pv nv : Value) (w : World) (hv : Ones av pv nv) (hs1 : U64I s.re) (hs2 : U64I s.im) (hx1 : U64I x.re) (hx2 : U64I x.im) : Calls Try.prog 86 #[.agg (stC s sp sn), .agg (pntC x av pv nv)] w fun e w' => e = .returned (.agg (pntC (lessF s x) av pv nv)) ∧ Kept (fun _ => False) w w' := by
  have HAV := Lib.hid hv
  obtain ⟨q, hq⟩ : ∃ q, q = w.heap.size := ⟨_, rfl⟩
  obtain ⟨CS, hCS⟩ : ∃ a, a = stC s sp sn := ⟨_, rfl⟩
  obtain ⟨CX, hCX⟩ : ∃ a, a = pntC x av pv nv := ⟨_, rfl⟩
  rw [← hCS, ← hCX]
  obtain ⟨w2, hw2⟩ : ∃ w2, w2 = ((w.alloc (.cells CS 32)).alloc (.cells CX 37)).alloc (.cells #[.string { data := #[] }, .slice none 0 0, .int .i64 0, .int .i64 0, .bool false, .int .i64 0, .int .i64 0, .int .i64 0, .int .u64 0, .int .u64 0, .int .i64 0, .int .u64 0, .int .i64 0, .slice none 0 0, .int .i64 0, .slice none 0 0, .int .i64 0] 37) := ⟨_, rfl⟩
  have k2 : Kept (fun _ => False) w w2 := by rw [hw2]; exact (((Kept.refl _ _).alloc _).alloc _).alloc _
  have hb1 : w2.heap[q]? = some (.cells CS 32 (0, 0)) := by rw [hw2, hq]; exact (((Kept.refl (fun _ => False) _).alloc _).alloc _).same (heap_alloc_new w _) (fun x => x)
  have hb2 : w2.heap[q + 1]? = some (.cells CX 37 (0, 0)) := by rw [hw2, hq]; exact ((Kept.refl (fun _ => False) _).alloc _).same (box_second2 w _ _) (fun x => x)
  have hb3 : w2.heap[q + 1 + 1]? = some (.cells #[.string { data := #[] }, .slice none 0 0, .int .i64 0, .int .i64 0, .bool false, .int .i64 0, .int .i64 0, .int .i64 0, .int .u64 0, .int .u64 0, .int .i64 0, .int .u64 0, .int .i64 0, .slice none 0 0, .int .i64 0, .slice none 0 0, .int .i64 0] 37 (0, 0)) := by rw [hw2, hq]; exact heap_third w _ _ _
  have HK2 := Lib.hid k2
  have HW2 := Lib.hid (And.intro hw2 hq)
  have HB : Hid (LB w2 q CS CX) := Lib.hid ⟨hb1, hb2, hb3⟩
  have HCX := Lib.hid hCX
  have HCS := Lib.hid hCS
  have HUS := Lib.hid (And.intro hs1 hs2)
  have HUX := Lib.hid (And.intro hx1 hx2)
  clear hCS hCX k2 hb1 hb2 hb3 hw2 hq hv hs1 hs2 hx1 hx2
  obtain ⟨re, hre⟩ : ∃ r, r = subI x.re s.re := ⟨_, rfl⟩
  obtain ⟨im, him⟩ : ∃ r, r = subI x.im s.im := ⟨_, rfl⟩
  have HRE : Hid (U64I re ∧ U64I im) := Lib.hid (by rw [hre, him]; exact ⟨subI_u64 _ _, subI_u64 _ _⟩)
  have HCA := Lib.hid (fun w => subPhasor_any x.re x.im s.re s.im w)
  rw [← hre, ← him] at HCA
  have HLS := Lib.hid (fun w => less_any x.re s.re w)
  have HF2 := Lib.hid (fun g w hr => fin15_2 g re im w hr HRE.out.1 HRE.out.2)
  have HF4 := Lib.hid (fun g w hr => fin15_4 g x.re x.im s.re s.im w hr HUX.out.1 HUX.out.2 HUS.out.1 HUS.out.2)
  unfold lessF
  rw [← hre, ← him]
  obtain ⟨bl, hbl⟩ : ∃ b, b = lessI x.re s.re := ⟨_, rfl⟩
  obtain ⟨b1, hb1⟩ : ∃ b, b = (finI re && finI im) := ⟨_, rfl⟩
  obtain ⟨b2, hb2⟩ : ∃ b, b = fin4 x.re x.im s.re s.im := ⟨_, rfl⟩
  rw [← hbl, ← hb1, ← hb2]
  rw [← hb1] at HF2
  rw [← hb2] at HF4
  rw [← hbl] at HLS
  obtain ⟨mo, hmo⟩ : ∃ b, b = x.mono := ⟨_, rfl⟩
  have HMO := Lib.hid hmo
  rw [← hmo]
  clear hre him hbl hb1 hb2 hmo
  cases mo with
  | false =>
    rw [if_neg (by rintro ⟨h, _⟩; cases h)]
    cases b2 with
    | false =>
      rw [if_neg (by rintro ⟨h, _⟩; cases h)]
      go_enter Try.func86, Try.ntmps86
      go_upto_region 1 with fail
      rw [← HW2.out.1, ← HW2.out.2]
      have s4 : w2.cell? ⟨q, 4, none⟩ = some (.int .u64 s.re) := cell_rowZ 4 _ HB.out.bs (by rw [HCS.out]; rfl)
      have s5 : w2.cell? ⟨q, 5, none⟩ = some (.int .u64 s.im) := cell_rowZ 5 _ HB.out.bs (by rw [HCS.out]; rfl)
      have p8 : w2.cell? ⟨q + 1, 8, none⟩ = some (.int .u64 x.re) := cell_rowZ 8 _ HB.out.bx (by rw [HCX.out]; rfl)
      have p9 : w2.cell? ⟨q + 1, 9, none⟩ = some (.int .u64 x.im) := cell_rowZ 9 _ HB.out.bx (by rw [HCX.out]; rfl)
      go_upto_region 3 with (go_at_call 109; refine (HCA.out _).mono ?_; rintro e w3 ⟨rfl, n, hn⟩; have k3 : Kept (fun _ => False) w2 w3 := (by rw [hn]; exact (Kept.refl _ _).drewN n); have HB3 := Lib.hid (HB.out.on k3); have HK3 := Lib.hid (HK2.out.trans k3); clear hn k3)
      clear s4 s5 p8 p9
      have p4 : w3.cell? ⟨q + 1, 4, none⟩ = some (.bool false) := cell_rowZ 4 _ HB3.out.bx (by rw [HCX.out, HMO.out]; rfl)
      have s4 : w3.cell? ⟨q, 4, none⟩ = some (.int .u64 s.re) := cell_rowZ 4 _ HB3.out.bs (by rw [HCS.out]; rfl)
      have p8 : w3.cell? ⟨q + 1, 8, none⟩ = some (.int .u64 x.re) := cell_rowZ 8 _ HB3.out.bx (by rw [HCX.out]; rfl)
      have s5 : w3.cell? ⟨q, 5, none⟩ = some (.int .u64 s.im) := cell_rowZ 5 _ HB3.out.bs (by rw [HCS.out]; rfl)
      have p9 : w3.cell? ⟨q + 1, 9, none⟩ = some (.int .u64 x.im) := cell_rowZ 9 _ HB3.out.bx (by rw [HCX.out]; rfl)
      have hfirst := Lib.hid trivial
      obtain ⟨iU, hiU, hzU0, hzU1, hzU2⟩ := info_parts Try.infoU64
      go_upto_region 2 with (first | (go_at_call 110; clear hfirst; refine (HF4.out _ _ (urow_new _ [x.re, x.im, s.re, s.im])).mono ?_; rintro e w5 ⟨rfl, k5⟩; have k35 : Kept (fun _ => False) w3 w5 := (((Kept.refl _ _).alloc _).trans k5); have HB5 := Lib.hid (HB3.out.on k35); have HK5 := Lib.hid (HK3.out.trans k35); have hsecond := Lib.hid trivial; clear k5 k35))
      clear hiU hzU0 hzU1 hzU2 s4 p8 s5 p9 p4
      have c8' : w5.cell? ⟨q + 1, 8, none⟩ = some (.int .u64 x.re) := cell_rowZ 8 _ HB5.out.bx (by rw [HCX.out]; rfl)
      have f8' := free_of_rowZ 8 HB5.out.bx
      have c9' : w5.cell? ⟨q + 1, 9, none⟩ = some (.int .u64 x.im) := cell_rowZ 9 _ HB5.out.bx (by rw [HCX.out]; rfl)
      have f9' := free_of_rowZ 9 HB5.out.bx
      go_upto_region 7 with fail
      obtain ⟨wE, hwE⟩ : ∃ w', w' = ((w5).setCell ⟨q + 1, 8, none⟩ (.int .u64 re)).setCell ⟨q + 1, 9, none⟩ (.int .u64 im) := ⟨_, rfl⟩
      obtain ⟨NX, hNX⟩ : ∃ a, a = pntC { x with re := re, im := im } av pv nv := ⟨_, rfl⟩
      have hD := HB5.out.putX 8 (.int .u64 re) (CX' := CX.setIfInBounds 8 (.int .u64 re)) rfl
      have hE := hD.1.putX 9 (.int .u64 im) (CX' := NX) (by rw [hNX, HCX.out]; rfl)
      rw [← hwE] at hE
      have HME := Lib.hid hE.1
      have HKE := Lib.hid ((HK5.out.newer hD.2 (fun i e => by have := HW2.out.2; omega)).newer hE.2 (fun i e => by have := HW2.out.2; omega))
      clear hD hE
      have HIN : Hid ((Try.prog.info? 37).map (·.size) = some NX.size ∧ (#[.string { data := #[] }, .slice none 0 0, .int .i64 0, .int .i64 0, .bool false, .int .i64 0, .int .i64 0, .int .i64 0, .int .u64 0, .int .u64 0, .int .i64 0, .int .u64 0, .int .i64 0, .slice none 0 0, .int .i64 0, .slice none 0 0, .int .i64 0] : Array Value).size = NX.size ∧ NX.all (·.oneCell') = true) := Lib.hid (by rw [hNX]; exact ⟨point_info, rfl, pntC_one' HAV.out⟩)
      have HNX := Lib.hid hNX
      rw [← hwE]
      clear hwE hNX c8' f8' c9' f9'
      go_wp2_with (first
        | (refine wpList_load_row rfl 37 (.tmp 3) rfl (q + 1) rfl 37 _ (0, 0) _ HME.out.bx Try.underlying37 rfl HIN.out.1 ?_)
        | (refine wpList_store_row rfl 37 (.tmp 4) _ rfl (q + 1 + 1) NX rfl rfl 37 _ HME.out.bz HIN.out.1 HIN.out.2.1 HIN.out.2.2 ?_)
        | fail)
      refine bodyPost_ret (results_cell_row Try.results86 _ _ (q + 1 + 1) 37 _ (0, 0) _ rfl (setRow_heap _ _ _ _ _ _ HME.out.bz) Try.underlying37 rfl HIN.out.1) rfl ?_
      have kF := HKE.out.newer (setRow_keptW wE (q + 1 + 1) NX) (fun i e => by have := HW2.out.2; omega)
      exact ⟨by rw [HNX.out, ← HMO.out], kF⟩
    | true =>
      cases b1 with
      | true =>
        rw [if_neg (by rintro ⟨_, h⟩; cases h)]
        go_enter Try.func86, Try.ntmps86
        go_upto_region 1 with fail
        rw [← HW2.out.1, ← HW2.out.2]
        have s4 : w2.cell? ⟨q, 4, none⟩ = some (.int .u64 s.re) := cell_rowZ 4 _ HB.out.bs (by rw [HCS.out]; rfl)
        have s5 : w2.cell? ⟨q, 5, none⟩ = some (.int .u64 s.im) := cell_rowZ 5 _ HB.out.bs (by rw [HCS.out]; rfl)
        have p8 : w2.cell? ⟨q + 1, 8, none⟩ = some (.int .u64 x.re) := cell_rowZ 8 _ HB.out.bx (by rw [HCX.out]; rfl)
        have p9 : w2.cell? ⟨q + 1, 9, none⟩ = some (.int .u64 x.im) := cell_rowZ 9 _ HB.out.bx (by rw [HCX.out]; rfl)
        go_upto_region 3 with (go_at_call 109; refine (HCA.out _).mono ?_; rintro e w3 ⟨rfl, n, hn⟩; have k3 : Kept (fun _ => False) w2 w3 := (by rw [hn]; exact (Kept.refl _ _).drewN n); have HB3 := Lib.hid (HB.out.on k3); have HK3 := Lib.hid (HK2.out.trans k3); clear hn k3)
        clear s4 s5 p8 p9
        have p4 : w3.cell? ⟨q + 1, 4, none⟩ = some (.bool false) := cell_rowZ 4 _ HB3.out.bx (by rw [HCX.out, HMO.out]; rfl)
        have s4 : w3.cell? ⟨q, 4, none⟩ = some (.int .u64 s.re) := cell_rowZ 4 _ HB3.out.bs (by rw [HCS.out]; rfl)
        have p8 : w3.cell? ⟨q + 1, 8, none⟩ = some (.int .u64 x.re) := cell_rowZ 8 _ HB3.out.bx (by rw [HCX.out]; rfl)
        have s5 : w3.cell? ⟨q, 5, none⟩ = some (.int .u64 s.im) := cell_rowZ 5 _ HB3.out.bs (by rw [HCS.out]; rfl)
        have p9 : w3.cell? ⟨q + 1, 9, none⟩ = some (.int .u64 x.im) := cell_rowZ 9 _ HB3.out.bx (by rw [HCX.out]; rfl)
        have hfirst := Lib.hid trivial
        obtain ⟨iU, hiU, hzU0, hzU1, hzU2⟩ := info_parts Try.infoU64
        go_upto_region 2 with (first | (go_at_call 110; clear hfirst; refine (HF4.out _ _ (urow_new _ [x.re, x.im, s.re, s.im])).mono ?_; rintro e w5 ⟨rfl, k5⟩; have k35 : Kept (fun _ => False) w3 w5 := (((Kept.refl _ _).alloc _).trans k5); have HB5 := Lib.hid (HB3.out.on k35); have HK5 := Lib.hid (HK3.out.trans k35); have hsecond := Lib.hid trivial; clear k5 k35) | (go_at_call 110; clear hsecond; refine (HF2.out _ _ (urow_new _ [re, im])).mono ?_; rintro e w7 ⟨rfl, k7⟩; have k57 : Kept (fun _ => False) w5 w7 := (((Kept.refl _ _).alloc _).trans k7); have HB7 := Lib.hid (HB5.out.on k57); have HK7 := Lib.hid (HK5.out.trans k57); clear k7 k57))
        clear hiU hzU0 hzU1 hzU2 s4 p8 s5 p9 p4
        have c8' : w7.cell? ⟨q + 1, 8, none⟩ = some (.int .u64 x.re) := cell_rowZ 8 _ HB7.out.bx (by rw [HCX.out]; rfl)
        have f8' := free_of_rowZ 8 HB7.out.bx
        have c9' : w7.cell? ⟨q + 1, 9, none⟩ = some (.int .u64 x.im) := cell_rowZ 9 _ HB7.out.bx (by rw [HCX.out]; rfl)
        have f9' := free_of_rowZ 9 HB7.out.bx
        go_upto_region 7 with fail
        obtain ⟨wE, hwE⟩ : ∃ w', w' = ((w7).setCell ⟨q + 1, 8, none⟩ (.int .u64 re)).setCell ⟨q + 1, 9, none⟩ (.int .u64 im) := ⟨_, rfl⟩
        obtain ⟨NX, hNX⟩ : ∃ a, a = pntC { x with re := re, im := im } av pv nv := ⟨_, rfl⟩
        have hD := HB7.out.putX 8 (.int .u64 re) (CX' := CX.setIfInBounds 8 (.int .u64 re)) rfl
        have hE := hD.1.putX 9 (.int .u64 im) (CX' := NX) (by rw [hNX, HCX.out]; rfl)
        rw [← hwE] at hE
        have HME := Lib.hid hE.1
        have HKE := Lib.hid ((HK7.out.newer hD.2 (fun i e => by have := HW2.out.2; omega)).newer hE.2 (fun i e => by have := HW2.out.2; omega))
        clear hD hE
        have HIN : Hid ((Try.prog.info? 37).map (·.size) = some NX.size ∧ (#[.string { data := #[] }, .slice none 0 0, .int .i64 0, .int .i64 0, .bool false, .int .i64 0, .int .i64 0, .int .i64 0, .int .u64 0, .int .u64 0, .int .i64 0, .int .u64 0, .int .i64 0, .slice none 0 0, .int .i64 0, .slice none 0 0, .int .i64 0] : Array Value).size = NX.size ∧ NX.all (·.oneCell') = true) := Lib.hid (by rw [hNX]; exact ⟨point_info, rfl, pntC_one' HAV.out⟩)
        have HNX := Lib.hid hNX
        rw [← hwE]
        clear hwE hNX c8' f8' c9' f9'
        go_wp2_with (first
          | (refine wpList_load_row rfl 37 (.tmp 3) rfl (q + 1) rfl 37 _ (0, 0) _ HME.out.bx Try.underlying37 rfl HIN.out.1 ?_)
          | (refine wpList_store_row rfl 37 (.tmp 4) _ rfl (q + 1 + 1) NX rfl rfl 37 _ HME.out.bz HIN.out.1 HIN.out.2.1 HIN.out.2.2 ?_)
          | fail)
        refine bodyPost_ret (results_cell_row Try.results86 _ _ (q + 1 + 1) 37 _ (0, 0) _ rfl (setRow_heap _ _ _ _ _ _ HME.out.bz) Try.underlying37 rfl HIN.out.1) rfl ?_
        have kF := HKE.out.newer (setRow_keptW wE (q + 1 + 1) NX) (fun i e => by have := HW2.out.2; omega)
        exact ⟨by rw [HNX.out, ← HMO.out], kF⟩
      | false =>
        rw [if_pos ⟨rfl, rfl⟩]
        go_enter Try.func86, Try.ntmps86
        go_upto_region 1 with fail
        rw [← HW2.out.1, ← HW2.out.2]
        have s4 : w2.cell? ⟨q, 4, none⟩ = some (.int .u64 s.re) := cell_rowZ 4 _ HB.out.bs (by rw [HCS.out]; rfl)
        have s5 : w2.cell? ⟨q, 5, none⟩ = some (.int .u64 s.im) := cell_rowZ 5 _ HB.out.bs (by rw [HCS.out]; rfl)
        have p8 : w2.cell? ⟨q + 1, 8, none⟩ = some (.int .u64 x.re) := cell_rowZ 8 _ HB.out.bx (by rw [HCX.out]; rfl)
        have p9 : w2.cell? ⟨q + 1, 9, none⟩ = some (.int .u64 x.im) := cell_rowZ 9 _ HB.out.bx (by rw [HCX.out]; rfl)
        go_upto_region 3 with (go_at_call 109; refine (HCA.out _).mono ?_; rintro e w3 ⟨rfl, n, hn⟩; have k3 : Kept (fun _ => False) w2 w3 := (by rw [hn]; exact (Kept.refl _ _).drewN n); have HB3 := Lib.hid (HB.out.on k3); have HK3 := Lib.hid (HK2.out.trans k3); clear hn k3)
        clear s4 s5 p8 p9
        have p4 : w3.cell? ⟨q + 1, 4, none⟩ = some (.bool false) := cell_rowZ 4 _ HB3.out.bx (by rw [HCX.out, HMO.out]; rfl)
        have s4 : w3.cell? ⟨q, 4, none⟩ = some (.int .u64 s.re) := cell_rowZ 4 _ HB3.out.bs (by rw [HCS.out]; rfl)
        have p8 : w3.cell? ⟨q + 1, 8, none⟩ = some (.int .u64 x.re) := cell_rowZ 8 _ HB3.out.bx (by rw [HCX.out]; rfl)
        have s5 : w3.cell? ⟨q, 5, none⟩ = some (.int .u64 s.im) := cell_rowZ 5 _ HB3.out.bs (by rw [HCS.out]; rfl)
        have p9 : w3.cell? ⟨q + 1, 9, none⟩ = some (.int .u64 x.im) := cell_rowZ 9 _ HB3.out.bx (by rw [HCX.out]; rfl)
        have hfirst := Lib.hid trivial
        obtain ⟨iU, hiU, hzU0, hzU1, hzU2⟩ := info_parts Try.infoU64
        go_upto_region 6 with (first | (go_at_call 110; clear hfirst; refine (HF4.out _ _ (urow_new _ [x.re, x.im, s.re, s.im])).mono ?_; rintro e w5 ⟨rfl, k5⟩; have k35 : Kept (fun _ => False) w3 w5 := (((Kept.refl _ _).alloc _).trans k5); have HB5 := Lib.hid (HB3.out.on k35); have HK5 := Lib.hid (HK3.out.trans k35); have hsecond := Lib.hid trivial; clear k5 k35) | (go_at_call 110; clear hsecond; refine (HF2.out _ _ (urow_new _ [re, im])).mono ?_; rintro e w7 ⟨rfl, k7⟩; have k57 : Kept (fun _ => False) w5 w7 := (((Kept.refl _ _).alloc _).trans k7); have HB7 := Lib.hid (HB5.out.on k57); have HK7 := Lib.hid (HK5.out.trans k57); clear k7 k57))
        clear hiU hzU0 hzU1 hzU2 s4 p8 s5 p9 p4
        have c16' : w7.cell? ⟨q + 1, 16, none⟩ = some (.int .i64 x.flags) := cell_rowZ 16 _ HB7.out.bx (by rw [HCX.out]; rfl)
        have f16' := free_of_rowZ 16 HB7.out.bx
        go_upto_region 7 with fail
        obtain ⟨wE, hwE⟩ : ∃ w', w' = (w7).setCell ⟨q + 1, 16, none⟩ (.int .i64 16) := ⟨_, rfl⟩
        obtain ⟨NX, hNX⟩ : ∃ a, a = pntC { x with flags := 16 } av pv nv := ⟨_, rfl⟩
        have hE := HB7.out.putX 16 (.int .i64 16) (CX' := NX) (by rw [hNX, HCX.out]; rfl)
        rw [← hwE] at hE
        have HME := Lib.hid hE.1
        have HKE := Lib.hid (HK7.out.newer hE.2 (fun i e => by have := HW2.out.2; omega))
        clear hE
        have HIN : Hid ((Try.prog.info? 37).map (·.size) = some NX.size ∧ (#[.string { data := #[] }, .slice none 0 0, .int .i64 0, .int .i64 0, .bool false, .int .i64 0, .int .i64 0, .int .i64 0, .int .u64 0, .int .u64 0, .int .i64 0, .int .u64 0, .int .i64 0, .slice none 0 0, .int .i64 0, .slice none 0 0, .int .i64 0] : Array Value).size = NX.size ∧ NX.all (·.oneCell') = true) := Lib.hid (by rw [hNX]; exact ⟨point_info, rfl, pntC_one' HAV.out⟩)
        have HNX := Lib.hid hNX
        rw [← hwE]
        clear hwE hNX c16' f16'
        go_wp2_with (first
          | (refine wpList_load_row rfl 37 (.tmp 3) rfl (q + 1) rfl 37 _ (0, 0) _ HME.out.bx Try.underlying37 rfl HIN.out.1 ?_)
          | (refine wpList_store_row rfl 37 (.tmp 4) _ rfl (q + 1 + 1) NX rfl rfl 37 _ HME.out.bz HIN.out.1 HIN.out.2.1 HIN.out.2.2 ?_)
          | fail)
        refine bodyPost_ret (results_cell_row Try.results86 _ _ (q + 1 + 1) 37 _ (0, 0) _ rfl (setRow_heap _ _ _ _ _ _ HME.out.bz) Try.underlying37 rfl HIN.out.1) rfl ?_
        have kF := HKE.out.newer (setRow_keptW wE (q + 1 + 1) NX) (fun i e => by have := HW2.out.2; omega)
        exact ⟨by rw [HNX.out, ← HMO.out], kF⟩
  | true =>
    cases bl with
    | true =>
      rw [if_pos ⟨rfl, rfl⟩]
      go_enter Try.func86, Try.ntmps86
      go_upto_region 1 with fail
      rw [← HW2.out.1, ← HW2.out.2]
      have s4 : w2.cell? ⟨q, 4, none⟩ = some (.int .u64 s.re) := cell_rowZ 4 _ HB.out.bs (by rw [HCS.out]; rfl)
      have s5 : w2.cell? ⟨q, 5, none⟩ = some (.int .u64 s.im) := cell_rowZ 5 _ HB.out.bs (by rw [HCS.out]; rfl)
      have p8 : w2.cell? ⟨q + 1, 8, none⟩ = some (.int .u64 x.re) := cell_rowZ 8 _ HB.out.bx (by rw [HCX.out]; rfl)
      have p9 : w2.cell? ⟨q + 1, 9, none⟩ = some (.int .u64 x.im) := cell_rowZ 9 _ HB.out.bx (by rw [HCX.out]; rfl)
      go_upto_region 3 with (go_at_call 109; refine (HCA.out _).mono ?_; rintro e w3 ⟨rfl, n, hn⟩; have k3 : Kept (fun _ => False) w2 w3 := (by rw [hn]; exact (Kept.refl _ _).drewN n); have HB3 := Lib.hid (HB.out.on k3); have HK3 := Lib.hid (HK2.out.trans k3); clear hn k3)
      clear s4 s5 p8 p9
      have p4 : w3.cell? ⟨q + 1, 4, none⟩ = some (.bool true) := cell_rowZ 4 _ HB3.out.bx (by rw [HCX.out, HMO.out]; rfl)
      have s4 : w3.cell? ⟨q, 4, none⟩ = some (.int .u64 s.re) := cell_rowZ 4 _ HB3.out.bs (by rw [HCS.out]; rfl)
      have p8 : w3.cell? ⟨q + 1, 8, none⟩ = some (.int .u64 x.re) := cell_rowZ 8 _ HB3.out.bx (by rw [HCX.out]; rfl)
      go_upto_region 4 with (go_at_call 42; refine (HLS.out _).mono ?_; rintro e w' ⟨rfl, rfl⟩)
      clear s4 p8 p4
      have c16' : w3.cell? ⟨q + 1, 16, none⟩ = some (.int .i64 x.flags) := cell_rowZ 16 _ HB3.out.bx (by rw [HCX.out]; rfl)
      have f16' := free_of_rowZ 16 HB3.out.bx
      go_upto_region 7 with fail
      obtain ⟨wE, hwE⟩ : ∃ w', w' = (w3).setCell ⟨q + 1, 16, none⟩ (.int .i64 4) := ⟨_, rfl⟩
      obtain ⟨NX, hNX⟩ : ∃ a, a = pntC { x with flags := 4 } av pv nv := ⟨_, rfl⟩
      have hE := HB3.out.putX 16 (.int .i64 4) (CX' := NX) (by rw [hNX, HCX.out]; rfl)
      rw [← hwE] at hE
      have HME := Lib.hid hE.1
      have HKE := Lib.hid (HK3.out.newer hE.2 (fun i e => by have := HW2.out.2; omega))
      clear hE
      have HIN : Hid ((Try.prog.info? 37).map (·.size) = some NX.size ∧ (#[.string { data := #[] }, .slice none 0 0, .int .i64 0, .int .i64 0, .bool false, .int .i64 0, .int .i64 0, .int .i64 0, .int .u64 0, .int .u64 0, .int .i64 0, .int .u64 0, .int .i64 0, .slice none 0 0, .int .i64 0, .slice none 0 0, .int .i64 0] : Array Value).size = NX.size ∧ NX.all (·.oneCell') = true) := Lib.hid (by rw [hNX]; exact ⟨point_info, rfl, pntC_one' HAV.out⟩)
      have HNX := Lib.hid hNX
      rw [← hwE]
      clear hwE hNX c16' f16'
      go_wp2_with (first
        | (refine wpList_load_row rfl 37 (.tmp 3) rfl (q + 1) rfl 37 _ (0, 0) _ HME.out.bx Try.underlying37 rfl HIN.out.1 ?_)
        | (refine wpList_store_row rfl 37 (.tmp 4) _ rfl (q + 1 + 1) NX rfl rfl 37 _ HME.out.bz HIN.out.1 HIN.out.2.1 HIN.out.2.2 ?_)
        | fail)
      refine bodyPost_ret (results_cell_row Try.results86 _ _ (q + 1 + 1) 37 _ (0, 0) _ rfl (setRow_heap _ _ _ _ _ _ HME.out.bz) Try.underlying37 rfl HIN.out.1) rfl ?_
      have kF := HKE.out.newer (setRow_keptW wE (q + 1 + 1) NX) (fun i e => by have := HW2.out.2; omega)
      exact ⟨by rw [HNX.out, ← HMO.out], kF⟩
    | false =>
      rw [if_neg (by rintro ⟨_, h⟩; cases h)]
      cases b2 with
      | false =>
        rw [if_neg (by rintro ⟨h, _⟩; cases h)]
        go_enter Try.func86, Try.ntmps86
        go_upto_region 1 with fail
        rw [← HW2.out.1, ← HW2.out.2]
        have s4 : w2.cell? ⟨q, 4, none⟩ = some (.int .u64 s.re) := cell_rowZ 4 _ HB.out.bs (by rw [HCS.out]; rfl)
        have s5 : w2.cell? ⟨q, 5, none⟩ = some (.int .u64 s.im) := cell_rowZ 5 _ HB.out.bs (by rw [HCS.out]; rfl)
        have p8 : w2.cell? ⟨q + 1, 8, none⟩ = some (.int .u64 x.re) := cell_rowZ 8 _ HB.out.bx (by rw [HCX.out]; rfl)
        have p9 : w2.cell? ⟨q + 1, 9, none⟩ = some (.int .u64 x.im) := cell_rowZ 9 _ HB.out.bx (by rw [HCX.out]; rfl)
        go_upto_region 3 with (go_at_call 109; refine (HCA.out _).mono ?_; rintro e w3 ⟨rfl, n, hn⟩; have k3 : Kept (fun _ => False) w2 w3 := (by rw [hn]; exact (Kept.refl _ _).drewN n); have HB3 := Lib.hid (HB.out.on k3); have HK3 := Lib.hid (HK2.out.trans k3); clear hn k3)
        clear s4 s5 p8 p9
        have p4 : w3.cell? ⟨q + 1, 4, none⟩ = some (.bool true) := cell_rowZ 4 _ HB3.out.bx (by rw [HCX.out, HMO.out]; rfl)
        have s4 : w3.cell? ⟨q, 4, none⟩ = some (.int .u64 s.re) := cell_rowZ 4 _ HB3.out.bs (by rw [HCS.out]; rfl)
        have p8 : w3.cell? ⟨q + 1, 8, none⟩ = some (.int .u64 x.re) := cell_rowZ 8 _ HB3.out.bx (by rw [HCX.out]; rfl)
        have s5 : w3.cell? ⟨q, 5, none⟩ = some (.int .u64 s.im) := cell_rowZ 5 _ HB3.out.bs (by rw [HCS.out]; rfl)
        have p9 : w3.cell? ⟨q + 1, 9, none⟩ = some (.int .u64 x.im) := cell_rowZ 9 _ HB3.out.bx (by rw [HCX.out]; rfl)
        have hfirst := Lib.hid trivial
        obtain ⟨iU, hiU, hzU0, hzU1, hzU2⟩ := info_parts Try.infoU64
        go_upto_region 2 with (first | (go_at_call 42; refine (HLS.out _).mono ?_; rintro e w' ⟨rfl, rfl⟩) | (go_at_call 110; clear hfirst; refine (HF4.out _ _ (urow_new _ [x.re, x.im, s.re, s.im])).mono ?_; rintro e w5 ⟨rfl, k5⟩; have k35 : Kept (fun _ => False) w3 w5 := (((Kept.refl _ _).alloc _).trans k5); have HB5 := Lib.hid (HB3.out.on k35); have HK5 := Lib.hid (HK3.out.trans k35); have hsecond := Lib.hid trivial; clear k5 k35))
        clear hiU hzU0 hzU1 hzU2 s4 p8 s5 p9 p4
        have c8' : w5.cell? ⟨q + 1, 8, none⟩ = some (.int .u64 x.re) := cell_rowZ 8 _ HB5.out.bx (by rw [HCX.out]; rfl)
        have f8' := free_of_rowZ 8 HB5.out.bx
        have c9' : w5.cell? ⟨q + 1, 9, none⟩ = some (.int .u64 x.im) := cell_rowZ 9 _ HB5.out.bx (by rw [HCX.out]; rfl)
        have f9' := free_of_rowZ 9 HB5.out.bx
        go_upto_region 7 with fail
        obtain ⟨wE, hwE⟩ : ∃ w', w' = ((w5).setCell ⟨q + 1, 8, none⟩ (.int .u64 re)).setCell ⟨q + 1, 9, none⟩ (.int .u64 im) := ⟨_, rfl⟩
        obtain ⟨NX, hNX⟩ : ∃ a, a = pntC { x with re := re, im := im } av pv nv := ⟨_, rfl⟩
        have hD := HB5.out.putX 8 (.int .u64 re) (CX' := CX.setIfInBounds 8 (.int .u64 re)) rfl
        have hE := hD.1.putX 9 (.int .u64 im) (CX' := NX) (by rw [hNX, HCX.out]; rfl)
        rw [← hwE] at hE
        have HME := Lib.hid hE.1
        have HKE := Lib.hid ((HK5.out.newer hD.2 (fun i e => by have := HW2.out.2; omega)).newer hE.2 (fun i e => by have := HW2.out.2; omega))
        clear hD hE
        have HIN : Hid ((Try.prog.info? 37).map (·.size) = some NX.size ∧ (#[.string { data := #[] }, .slice none 0 0, .int .i64 0, .int .i64 0, .bool false, .int .i64 0, .int .i64 0, .int .i64 0, .int .u64 0, .int .u64 0, .int .i64 0, .int .u64 0, .int .i64 0, .slice none 0 0, .int .i64 0, .slice none 0 0, .int .i64 0] : Array Value).size = NX.size ∧ NX.all (·.oneCell') = true) := Lib.hid (by rw [hNX]; exact ⟨point_info, rfl, pntC_one' HAV.out⟩)
        have HNX := Lib.hid hNX
        rw [← hwE]
        clear hwE hNX c8' f8' c9' f9'
        go_wp2_with (first
          | (refine wpList_load_row rfl 37 (.tmp 3) rfl (q + 1) rfl 37 _ (0, 0) _ HME.out.bx Try.underlying37 rfl HIN.out.1 ?_)
          | (refine wpList_store_row rfl 37 (.tmp 4) _ rfl (q + 1 + 1) NX rfl rfl 37 _ HME.out.bz HIN.out.1 HIN.out.2.1 HIN.out.2.2 ?_)
          | fail)
        refine bodyPost_ret (results_cell_row Try.results86 _ _ (q + 1 + 1) 37 _ (0, 0) _ rfl (setRow_heap _ _ _ _ _ _ HME.out.bz) Try.underlying37 rfl HIN.out.1) rfl ?_
        have kF := HKE.out.newer (setRow_keptW wE (q + 1 + 1) NX) (fun i e => by have := HW2.out.2; omega)
        exact ⟨by rw [HNX.out, ← HMO.out], kF⟩
      | true =>
        cases b1 with
        | true =>
          rw [if_neg (by rintro ⟨_, h⟩; cases h)]
          go_enter Try.func86, Try.ntmps86
          go_upto_region 1 with fail
          rw [← HW2.out.1, ← HW2.out.2]
          have s4 : w2.cell? ⟨q, 4, none⟩ = some (.int .u64 s.re) := cell_rowZ 4 _ HB.out.bs (by rw [HCS.out]; rfl)
          have s5 : w2.cell? ⟨q, 5, none⟩ = some (.int .u64 s.im) := cell_rowZ 5 _ HB.out.bs (by rw [HCS.out]; rfl)
          have p8 : w2.cell? ⟨q + 1, 8, none⟩ = some (.int .u64 x.re) := cell_rowZ 8 _ HB.out.bx (by rw [HCX.out]; rfl)
          have p9 : w2.cell? ⟨q + 1, 9, none⟩ = some (.int .u64 x.im) := cell_rowZ 9 _ HB.out.bx (by rw [HCX.out]; rfl)
          go_upto_region 3 with (go_at_call 109; refine (HCA.out _).mono ?_; rintro e w3 ⟨rfl, n, hn⟩; have k3 : Kept (fun _ => False) w2 w3 := (by rw [hn]; exact (Kept.refl _ _).drewN n); have HB3 := Lib.hid (HB.out.on k3); have HK3 := Lib.hid (HK2.out.trans k3); clear hn k3)
          clear s4 s5 p8 p9
          have p4 : w3.cell? ⟨q + 1, 4, none⟩ = some (.bool true) := cell_rowZ 4 _ HB3.out.bx (by rw [HCX.out, HMO.out]; rfl)
          have s4 : w3.cell? ⟨q, 4, none⟩ = some (.int .u64 s.re) := cell_rowZ 4 _ HB3.out.bs (by rw [HCS.out]; rfl)
          have p8 : w3.cell? ⟨q + 1, 8, none⟩ = some (.int .u64 x.re) := cell_rowZ 8 _ HB3.out.bx (by rw [HCX.out]; rfl)
          have s5 : w3.cell? ⟨q, 5, none⟩ = some (.int .u64 s.im) := cell_rowZ 5 _ HB3.out.bs (by rw [HCS.out]; rfl)
          have p9 : w3.cell? ⟨q + 1, 9, none⟩ = some (.int .u64 x.im) := cell_rowZ 9 _ HB3.out.bx (by rw [HCX.out]; rfl)
          have hfirst := Lib.hid trivial
          obtain ⟨iU, hiU, hzU0, hzU1, hzU2⟩ := info_parts Try.infoU64
          go_upto_region 2 with (first | (go_at_call 42; refine (HLS.out _).mono ?_; rintro e w' ⟨rfl, rfl⟩) | (go_at_call 110; clear hfirst; refine (HF4.out _ _ (urow_new _ [x.re, x.im, s.re, s.im])).mono ?_; rintro e w5 ⟨rfl, k5⟩; have k35 : Kept (fun _ => False) w3 w5 := (((Kept.refl _ _).alloc _).trans k5); have HB5 := Lib.hid (HB3.out.on k35); have HK5 := Lib.hid (HK3.out.trans k35); have hsecond := Lib.hid trivial; clear k5 k35) | (go_at_call 110; clear hsecond; refine (HF2.out _ _ (urow_new _ [re, im])).mono ?_; rintro e w7 ⟨rfl, k7⟩; have k57 : Kept (fun _ => False) w5 w7 := (((Kept.refl _ _).alloc _).trans k7); have HB7 := Lib.hid (HB5.out.on k57); have HK7 := Lib.hid (HK5.out.trans k57); clear k7 k57))
          clear hiU hzU0 hzU1 hzU2 s4 p8 s5 p9 p4
          have c8' : w7.cell? ⟨q + 1, 8, none⟩ = some (.int .u64 x.re) := cell_rowZ 8 _ HB7.out.bx (by rw [HCX.out]; rfl)
          have f8' := free_of_rowZ 8 HB7.out.bx
          have c9' : w7.cell? ⟨q + 1, 9, none⟩ = some (.int .u64 x.im) := cell_rowZ 9 _ HB7.out.bx (by rw [HCX.out]; rfl)
          have f9' := free_of_rowZ 9 HB7.out.bx
          go_upto_region 7 with fail
          obtain ⟨wE, hwE⟩ : ∃ w', w' = ((w7).setCell ⟨q + 1, 8, none⟩ (.int .u64 re)).setCell ⟨q + 1, 9, none⟩ (.int .u64 im) := ⟨_, rfl⟩
          obtain ⟨NX, hNX⟩ : ∃ a, a = pntC { x with re := re, im := im } av pv nv := ⟨_, rfl⟩
          have hD := HB7.out.putX 8 (.int .u64 re) (CX' := CX.setIfInBounds 8 (.int .u64 re)) rfl
          have hE := hD.1.putX 9 (.int .u64 im) (CX' := NX) (by rw [hNX, HCX.out]; rfl)
          rw [← hwE] at hE
          have HME := Lib.hid hE.1
          have HKE := Lib.hid ((HK7.out.newer hD.2 (fun i e => by have := HW2.out.2; omega)).newer hE.2 (fun i e => by have := HW2.out.2; omega))
          clear hD hE
          have HIN : Hid ((Try.prog.info? 37).map (·.size) = some NX.size ∧ (#[.string { data := #[] }, .slice none 0 0, .int .i64 0, .int .i64 0, .bool false, .int .i64 0, .int .i64 0, .int .i64 0, .int .u64 0, .int .u64 0, .int .i64 0, .int .u64 0, .int .i64 0, .slice none 0 0, .int .i64 0, .slice none 0 0, .int .i64 0] : Array Value).size = NX.size ∧ NX.all (·.oneCell') = true) := Lib.hid (by rw [hNX]; exact ⟨point_info, rfl, pntC_one' HAV.out⟩)
          have HNX := Lib.hid hNX
          rw [← hwE]
          clear hwE hNX c8' f8' c9' f9'
          go_wp2_with (first
            | (refine wpList_load_row rfl 37 (.tmp 3) rfl (q + 1) rfl 37 _ (0, 0) _ HME.out.bx Try.underlying37 rfl HIN.out.1 ?_)
            | (refine wpList_store_row rfl 37 (.tmp 4) _ rfl (q + 1 + 1) NX rfl rfl 37 _ HME.out.bz HIN.out.1 HIN.out.2.1 HIN.out.2.2 ?_)
            | fail)
          refine bodyPost_ret (results_cell_row Try.results86 _ _ (q + 1 + 1) 37 _ (0, 0) _ rfl (setRow_heap _ _ _ _ _ _ HME.out.bz) Try.underlying37 rfl HIN.out.1) rfl ?_
          have kF := HKE.out.newer (setRow_keptW wE (q + 1 + 1) NX) (fun i e => by have := HW2.out.2; omega)
          exact ⟨by rw [HNX.out, ← HMO.out], kF⟩
        | false =>
          rw [if_pos ⟨rfl, rfl⟩]
          go_enter Try.func86, Try.ntmps86
          go_upto_region 1 with fail
          rw [← HW2.out.1, ← HW2.out.2]
          have s4 : w2.cell? ⟨q, 4, none⟩ = some (.int .u64 s.re) := cell_rowZ 4 _ HB.out.bs (by rw [HCS.out]; rfl)
          have s5 : w2.cell? ⟨q, 5, none⟩ = some (.int .u64 s.im) := cell_rowZ 5 _ HB.out.bs (by rw [HCS.out]; rfl)
          have p8 : w2.cell? ⟨q + 1, 8, none⟩ = some (.int .u64 x.re) := cell_rowZ 8 _ HB.out.bx (by rw [HCX.out]; rfl)
          have p9 : w2.cell? ⟨q + 1, 9, none⟩ = some (.int .u64 x.im) := cell_rowZ 9 _ HB.out.bx (by rw [HCX.out]; rfl)
          go_upto_region 3 with (go_at_call 109; refine (HCA.out _).mono ?_; rintro e w3 ⟨rfl, n, hn⟩; have k3 : Kept (fun _ => False) w2 w3 := (by rw [hn]; exact (Kept.refl _ _).drewN n); have HB3 := Lib.hid (HB.out.on k3); have HK3 := Lib.hid (HK2.out.trans k3); clear hn k3)
          clear s4 s5 p8 p9
          have p4 : w3.cell? ⟨q + 1, 4, none⟩ = some (.bool true) := cell_rowZ 4 _ HB3.out.bx (by rw [HCX.out, HMO.out]; rfl)
          have s4 : w3.cell? ⟨q, 4, none⟩ = some (.int .u64 s.re) := cell_rowZ 4 _ HB3.out.bs (by rw [HCS.out]; rfl)
          have p8 : w3.cell? ⟨q + 1, 8, none⟩ = some (.int .u64 x.re) := cell_rowZ 8 _ HB3.out.bx (by rw [HCX.out]; rfl)
          have s5 : w3.cell? ⟨q, 5, none⟩ = some (.int .u64 s.im) := cell_rowZ 5 _ HB3.out.bs (by rw [HCS.out]; rfl)
          have p9 : w3.cell? ⟨q + 1, 9, none⟩ = some (.int .u64 x.im) := cell_rowZ 9 _ HB3.out.bx (by rw [HCX.out]; rfl)
          have hfirst := Lib.hid trivial
          obtain ⟨iU, hiU, hzU0, hzU1, hzU2⟩ := info_parts Try.infoU64
          go_upto_region 6 with (first | (go_at_call 42; refine (HLS.out _).mono ?_; rintro e w' ⟨rfl, rfl⟩) | (go_at_call 110; clear hfirst; refine (HF4.out _ _ (urow_new _ [x.re, x.im, s.re, s.im])).mono ?_; rintro e w5 ⟨rfl, k5⟩; have k35 : Kept (fun _ => False) w3 w5 := (((Kept.refl _ _).alloc _).trans k5); have HB5 := Lib.hid (HB3.out.on k35); have HK5 := Lib.hid (HK3.out.trans k35); have hsecond := Lib.hid trivial; clear k5 k35) | (go_at_call 110; clear hsecond; refine (HF2.out _ _ (urow_new _ [re, im])).mono ?_; rintro e w7 ⟨rfl, k7⟩; have k57 : Kept (fun _ => False) w5 w7 := (((Kept.refl _ _).alloc _).trans k7); have HB7 := Lib.hid (HB5.out.on k57); have HK7 := Lib.hid (HK5.out.trans k57); clear k7 k57))
          clear hiU hzU0 hzU1 hzU2 s4 p8 s5 p9 p4
          have c16' : w7.cell? ⟨q + 1, 16, none⟩ = some (.int .i64 x.flags) := cell_rowZ 16 _ HB7.out.bx (by rw [HCX.out]; rfl)
          have f16' := free_of_rowZ 16 HB7.out.bx
          go_upto_region 7 with fail
          obtain ⟨wE, hwE⟩ : ∃ w', w' = (w7).setCell ⟨q + 1, 16, none⟩ (.int .i64 16) := ⟨_, rfl⟩
          obtain ⟨NX, hNX⟩ : ∃ a, a = pntC { x with flags := 16 } av pv nv := ⟨_, rfl⟩
          have hE := HB7.out.putX 16 (.int .i64 16) (CX' := NX) (by rw [hNX, HCX.out]; rfl)
          rw [← hwE] at hE
          have HME := Lib.hid hE.1
          have HKE := Lib.hid (HK7.out.newer hE.2 (fun i e => by have := HW2.out.2; omega))
          clear hE
          have HIN : Hid ((Try.prog.info? 37).map (·.size) = some NX.size ∧ (#[.string { data := #[] }, .slice none 0 0, .int .i64 0, .int .i64 0, .bool false, .int .i64 0, .int .i64 0, .int .i64 0, .int .u64 0, .int .u64 0, .int .i64 0, .int .u64 0, .int .i64 0, .slice none 0 0, .int .i64 0, .slice none 0 0, .int .i64 0] : Array Value).size = NX.size ∧ NX.all (·.oneCell') = true) := Lib.hid (by rw [hNX]; exact ⟨point_info, rfl, pntC_one' HAV.out⟩)
          have HNX := Lib.hid hNX
          rw [← hwE]
          clear hwE hNX c16' f16'
          go_wp2_with (first
            | (refine wpList_load_row rfl 37 (.tmp 3) rfl (q + 1) rfl 37 _ (0, 0) _ HME.out.bx Try.underlying37 rfl HIN.out.1 ?_)
            | (refine wpList_store_row rfl 37 (.tmp 4) _ rfl (q + 1 + 1) NX rfl rfl 37 _ HME.out.bz HIN.out.1 HIN.out.2.1 HIN.out.2.2 ?_)
            | fail)
          refine bodyPost_ret (results_cell_row Try.results86 _ _ (q + 1 + 1) 37 _ (0, 0) _ rfl (setRow_heap _ _ _ _ _ _ HME.out.bz) Try.underlying37 rfl HIN.out.1) rfl ?_
          have kF := HKE.out.newer (setRow_keptW wE (q + 1 + 1) NX) (fun i e => by have := HW2.out.2; omega)
          exact ⟨by rw [HNX.out, ← HMO.out], kF⟩
end Go.Proofs.Ytiiibhdohlpodaa

namespace Go.Proofs.Ytiiibhdohlpodaa
open Go.RowKit
attribute [local go_sem ↓] Go.wp_at_zero Go.wp_at_succ
set_option maxHeartbeats 4000000 in
set_option maxRecDepth 100000 in
theorem less2_any (s : StV) (sp sn : Value) (x : Pnt) (av pv nv : Value) (w : World) (hv : Ones av pv nv) (hk : x.kind = 2) (hs1 : U64I s.re) (hs2 : U64I s.im) (hx1 : U64I x.re) (hx2 : U64I x.im) :
    Calls Try.prog 64 #[.agg (stC s sp sn), .agg (pntC x av pv nv)] w fun e w' => e = .returned (.tuple #[.agg (pntC (lessF s x) av pv nv), .agg #[.int .i64 x.h.sc, .int .u64 (x.h.ze : Int), .int .i64 x.h.po, pv, .int .i64 x.h.no, nv]]) ∧ Kept (fun _ => False) w w' := by
  obtain ⟨CS, hCS⟩ : ∃ a, a = stC s sp sn := ⟨_, rfl⟩
  obtain ⟨CX, hCX⟩ : ∃ a, a = pntC x av pv nv := ⟨_, rfl⟩
  have HLI := Lib.hid (fun w => lessFloat_any s sp sn x av pv nv w hv hs1 hs2 hx1 hx2)
  obtain ⟨NX, hNX⟩ : ∃ a, a = pntC (lessF s x) av pv nv := ⟨_, rfl⟩
  have HIN : Hid ((Try.prog.info? 37).map (·.size) = some NX.size) := Lib.hid (point_info.trans (by rw [hNX]; rfl))
  have HSN : Hid ((#[.string { data := #[] }, .slice none 0 0, .int .i64 0, .int .i64 0, .bool false, .int .i64 0, .int .i64 0, .int .i64 0, .int .u64 0, .int .u64 0, .int .i64 0, .int .u64 0, .int .i64 0, .slice none 0 0, .int .i64 0, .slice none 0 0, .int .i64 0] : Array Value).size = NX.size ∧ NX.all (·.oneCell') = true) := Lib.hid (by rw [hNX]; exact ⟨rfl, pntC_one' hv⟩)
  have HOH : Hid ((#[.int .i64 x.h.sc, .int .u64 (x.h.ze : Int), .int .i64 x.h.po, pv, .int .i64 x.h.no, nv] : Array Value).all (·.oneCell') = true) := Lib.hid (histC_one hv.2)
  rw [← hCS, ← hCX, ← hNX] at HLI
  rw [← hCS, ← hCX, ← hNX]
  have HIS : Hid ((Try.prog.info? 32).map (·.size) = some CS.size) := Lib.hid (state_info.trans (by rw [hCS]; rfl))
  have HIX : Hid ((Try.prog.info? 37).map (·.size) = some CX.size) := Lib.hid (point_info.trans (by rw [hCX]; rfl))
  have HCX := Lib.hid hCX
  obtain ⟨q, hq⟩ : ∃ q, q = w.heap.size := ⟨_, rfl⟩
  obtain ⟨w2, hw2⟩ : ∃ w2, w2 = (((w.alloc (.cells CS 32)).alloc (.cells CX 37)).alloc (.cells #[.string { data := #[] }, .slice none 0 0, .int .i64 0, .int .i64 0, .bool false, .int .i64 0, .int .i64 0, .int .i64 0, .int .u64 0, .int .u64 0, .int .i64 0, .int .u64 0, .int .i64 0, .slice none 0 0, .int .i64 0, .slice none 0 0, .int .i64 0] 37)).alloc (.cells #[.int .i64 0, .int .u64 0, .int .i64 0, .slice none 0 0, .int .i64 0, .slice none 0 0] 30) := ⟨_, rfl⟩
  have k2 : Kept (fun _ => False) w w2 := by rw [hw2]; exact ((((Kept.refl _ _).alloc _).alloc _).alloc _).alloc _
  have hb : w2.heap[q]? = some (.cells CS 32 (0, 0)) ∧ w2.heap[q + 1]? = some (.cells CX 37 (0, 0)) ∧ w2.heap[q + 1 + 1]? = some (.cells #[.string { data := #[] }, .slice none 0 0, .int .i64 0, .int .i64 0, .bool false, .int .i64 0, .int .i64 0, .int .i64 0, .int .u64 0, .int .u64 0, .int .i64 0, .int .u64 0, .int .i64 0, .slice none 0 0, .int .i64 0, .slice none 0 0, .int .i64 0] 37 (0, 0)) ∧ w2.heap[q + 1 + 1 + 1]? = some (.cells #[.int .i64 0, .int .u64 0, .int .i64 0, .slice none 0 0, .int .i64 0, .slice none 0 0] 30 (0, 0)) := by rw [hw2, hq]; exact alloc4 w _ _ _ _
  have HW2 := Lib.hid (And.intro hw2 hq)
  have HK02 := Lib.hid k2
  have HGE : Hid (w.heap.size ≤ q) := Lib.hid (by omega)
  have HB := Lib.hid hb
  have HSX : Hid (∀ w', Kept (fun _ => False) w2 w' → (fun w' => w'.heap[q]? = some (.cells CS 32 (0, 0)) ∧ w'.heap[q + 1]? = some (.cells CX 37 (0, 0))) w') := Lib.hid (fun w' k => ⟨k.same HB.out.1 (fun x => x), k.same HB.out.2.1 (fun x => x)⟩)
  have HBX : Hid (∀ w', Kept (fun _ => False) w2 w' → w'.heap[q]? = some (.cells CS 32 (0, 0)) ∧ w'.heap[q + 1]? = some (.cells CX 37 (0, 0)) ∧ w'.heap[q + 1 + 1]? = some (.cells #[.string { data := #[] }, .slice none 0 0, .int .i64 0, .int .i64 0, .bool false, .int .i64 0, .int .i64 0, .int .i64 0, .int .u64 0, .int .u64 0, .int .i64 0, .int .u64 0, .int .i64 0, .slice none 0 0, .int .i64 0, .slice none 0 0, .int .i64 0] 37 (0, 0)) ∧ w'.heap[q + 1 + 1 + 1]? = some (.cells #[.int .i64 0, .int .u64 0, .int .i64 0, .slice none 0 0, .int .i64 0, .slice none 0 0] 30 (0, 0))) := Lib.hid (fun w' k => ⟨k.same HB.out.1 (fun x => x), k.same HB.out.2.1 (fun x => x), k.same HB.out.2.2.1 (fun x => x), k.same HB.out.2.2.2 (fun x => x)⟩)
  have c2 : w2.cell? ⟨q + 1, 2, none⟩ = some (.int .i64 2) := cell_rowZ 2 _ hb.2.1 (by rw [hCX, ← hk]; rfl)
  clear hw2 hq k2 hb hCS hCX hNX hv hk hs1 hs2 hx1 hx2
  have HKd : Hid (Kept (fun _ => False) w2 w2.drew) := Lib.hid (Kept.refl _ _).drew
  have HS0 := Lib.hid (HSX.out w2.drew HKd.out)
  go_enter Try.func64, Try.ntmps64
  go_upto_region 1 with fail
  rw [← HW2.out.1, ← HW2.out.2]
  go_upto_region 6 with fail
  clear c2
  refine AnyBut.start (S := fun w' => w'.heap[q]? = some (.cells CS 32 (0, 0)) ∧ w'.heap[q + 1]? = some (.cells CX 37 (0, 0))) (k := 7) (by kernel_rfl) ?_
  refine AnyBut.takeS (i := 0) (v := ?v1) rfl (by kernel_rfl) (Nat.le_of_eq (by kernel_rfl)) (by kernel_rfl) (by kernel_rfl) (fun _ _ _ h => h) (HS0.out) (Or.inl ⟨by kernel_rfl, ?hy1⟩) ?r1
  case hy1 =>
    intro w hSw
    try dsimp only at hSw
    refine exec_load_row 32 (.tmp 2) ?_ q ?_ 32 _ (0, 0) _ hSw.1 Try.underlying32 rfl HIS.out
    · rfl
    · rfl
  try simp only [Act.put, List.getElem_toArray, List.getElem_cons_zero, List.setIfInBounds_toArray, List.set_cons_zero, List.set_cons_succ]
  refine AnyBut.takeS (i := 1) (v := ?v2) rfl (by kernel_rfl) (Nat.le_of_eq (by kernel_rfl)) (by kernel_rfl) (by kernel_rfl) (fun _ _ _ h => h) (HS0.out) (Or.inl ⟨by kernel_rfl, ?hy2⟩) ?r2
  case hy2 =>
    intro w hSw
    try dsimp only at hSw
    refine exec_load_row 37 (.tmp 3) ?_ (q + 1) ?_ 37 _ (0, 0) _ hSw.2 Try.underlying37 rfl HIX.out
    · rfl
    · rfl
  try simp only [Act.put, List.getElem_toArray, List.getElem_cons_succ, List.getElem_cons_zero, List.setIfInBounds_toArray, List.set_cons_zero, List.set_cons_succ]
  refine AnyBut.takeS (i := 3) (v := ?v3) rfl (by kernel_rfl) (Nat.le_of_eq (by kernel_rfl)) (by kernel_rfl) (by kernel_rfl) (fun _ _ _ h => h) (HS0.out) (Or.inl ⟨by kernel_rfl, ?hy3⟩) ?r3
  case hy3 =>
    intro w hSw
    try dsimp only at hSw
    go_simp
    try with_reducible rfl
  try simp only [Act.put, List.getElem_toArray, List.getElem_cons_succ, List.getElem_cons_zero, List.setIfInBounds_toArray, List.set_cons_zero, List.set_cons_succ]
  refine AnyBut.takeS (i := 4) (v := ?v4) rfl (by kernel_rfl) (Nat.le_of_eq (by kernel_rfl)) (by kernel_rfl) (by kernel_rfl) (fun _ _ _ h => h) (HS0.out) (Or.inl ⟨by kernel_rfl, ?hy4⟩) ?r4
  case hy4 =>
    intro w hSw
    try dsimp only at hSw
    have c10 := cell_rowZ 10 (.int .i64 x.h.sc) hSw.2 (by rw [HCX.out]; rfl)
    have c11 := cell_rowZ 11 (.int .u64 (x.h.ze : Int)) hSw.2 (by rw [HCX.out]; rfl)
    have c12 := cell_rowZ 12 (.int .i64 x.h.po) hSw.2 (by rw [HCX.out]; rfl)
    have c13 := cell_rowZ 13 pv hSw.2 (by rw [HCX.out]; rfl)
    have c14 := cell_rowZ 14 (.int .i64 x.h.no) hSw.2 (by rw [HCX.out]; rfl)
    have c15 := cell_rowZ 15 nv hSw.2 (by rw [HCX.out]; rfl)
    go_simp
    try with_reducible rfl
  try simp only [Act.put, List.getElem_toArray, List.getElem_cons_succ, List.getElem_cons_zero, List.setIfInBounds_toArray, List.set_cons_zero, List.set_cons_succ]
  refine AnyBut.one (i := 2) (by kernel_rfl) rfl (fun K hK => ?_)
  go_simp
  go_wp2_with fail
  refine (HLI.out _).mono ?_
  rintro e w3 ⟨rfl, k3⟩
  have HK3 := Lib.hid (HKd.out.trans k3)
  have HS3 := Lib.hid (HSX.out w3 HK3.out)
  clear k3
  go_wp2
  refine hK.out _ _ (HS3.out) ?_
  clear hK K
  try simp only [Act.put, List.getElem_toArray, List.getElem_cons_succ, List.getElem_cons_zero, List.setIfInBounds_toArray, List.set_cons_zero, List.set_cons_succ]
  refine AnyBut.one (i := 5) (by kernel_rfl) rfl (fun K hK => ?_)
  refine step_store_row (by rfl) 37 (.tmp 4) (.tmp 25) (by rfl) (q + 1 + 1) NX (by rfl) (by rfl) 37 #[.string { data := #[] }, .slice none 0 0, .int .i64 0, .int .i64 0, .bool false, .int .i64 0, .int .i64 0, .int .i64 0, .int .u64 0, .int .u64 0, .int .i64 0, .int .u64 0, .int .i64 0, .slice none 0 0, .int .i64 0, .slice none 0 0, .int .i64 0] (HBX.out w3 HK3.out).2.2.1 HIN.out HSN.out.1 HSN.out.2 ?_
  have HK5 : Hid (Kept (fun i => i = q + 1 + 1) w3 (w3.setRow (q + 1 + 1) NX)) := Lib.hid (setRow_keptW _ _ _)
  have HB5 : Hid (((w3.setRow (q + 1 + 1) NX).heap[q + 1 + 1]? = some (.cells NX 37 (0, 0))) ∧ ((w3.setRow (q + 1 + 1) NX).heap[q + 1 + 1 + 1]? = some (.cells #[.int .i64 0, .int .u64 0, .int .i64 0, .slice none 0 0, .int .i64 0, .slice none 0 0] 30 (0, 0)))) := Lib.hid ⟨setRow_heap _ _ _ _ _ _ (HBX.out w3 HK3.out).2.2.1, HK5.out.same (HBX.out w3 HK3.out).2.2.2 (by omega)⟩
  have HS5 : Hid ((fun w' => w'.heap[q]? = some (.cells CS 32 (0, 0)) ∧ w'.heap[q + 1]? = some (.cells CX 37 (0, 0))) (w3.setRow (q + 1 + 1) NX)) := Lib.hid ⟨HK5.out.same HS3.out.1 (by omega), HK5.out.same HS3.out.2 (by omega)⟩
  refine hK.out _ _ (HS5.out) ?_
  clear hK K
  try simp only [Act.put, List.getElem_toArray, List.getElem_cons_succ, List.getElem_cons_zero]
  refine AnyBut.one (i := 6) (by kernel_rfl) rfl (fun K hK => ?_)
  refine step_store_row (by rfl) 30 (.tmp 5) (.tmp 27) (by rfl) (q + 1 + 1 + 1) #[.int .i64 x.h.sc, .int .u64 (x.h.ze : Int), .int .i64 x.h.po, pv, .int .i64 x.h.no, nv] (by rfl) (by rfl) 30 #[.int .i64 0, .int .u64 0, .int .i64 0, .slice none 0 0, .int .i64 0, .slice none 0 0] HB5.out.2 hist_info rfl HOH.out ?_
  have HK6 : Hid (Kept (fun i => i = q + 1 + 1 + 1) (w3.setRow (q + 1 + 1) NX) ((w3.setRow (q + 1 + 1) NX).setRow (q + 1 + 1 + 1) #[.int .i64 x.h.sc, .int .u64 (x.h.ze : Int), .int .i64 x.h.po, pv, .int .i64 x.h.no, nv])) := Lib.hid (setRow_keptW _ _ _)
  have HB6 := Lib.hid (And.intro (HK6.out.same HB5.out.1 (by omega)) (setRow_heap _ _ _ #[.int .i64 x.h.sc, .int .u64 (x.h.ze : Int), .int .i64 x.h.po, pv, .int .i64 x.h.no, nv] _ _ HB5.out.2))
  have HS6 : Hid ((fun w' => w'.heap[q]? = some (.cells CS 32 (0, 0)) ∧ w'.heap[q + 1]? = some (.cells CX 37 (0, 0))) ((w3.setRow (q + 1 + 1) NX).setRow (q + 1 + 1 + 1) #[.int .i64 x.h.sc, .int .u64 (x.h.ze : Int), .int .i64 x.h.po, pv, .int .i64 x.h.no, nv])) := Lib.hid ⟨HK6.out.same HS5.out.1 (by omega), HK6.out.same HS5.out.2 (by omega)⟩
  refine hK.out _ _ (HS6.out) ?_
  clear hK K
  try simp only [Act.put, List.getElem_toArray, List.getElem_cons_succ, List.getElem_cons_zero]
  refine AnyBut.done (by kernel_rfl) ?_
  go_wp2
  refine bodyPost_ret (results_cc Try.results64 _ _ (q + 1 + 1) (q + 1 + 1 + 1) 37 30 _ _ (0, 0) (0, 0) _ _ rfl HB6.out.1 Try.underlying37 rfl HIN.out rfl HB6.out.2 Try.underlying30 rfl hist_info) rfl ?_
  exact ⟨rfl, ((HK02.out.trans HK3.out).newer HK5.out (fun i e => by have := HGE.out; omega)).newer HK6.out (fun i e => by have := HGE.out; omega)⟩
set_option maxHeartbeats 4000000 in
set_option maxRecDepth 100000 in
theorem less5_any (s : StV) (sp sn : Value) (x : Pnt) (av pv nv : Value) (w : World) (hv : Ones av pv nv) (hk : x.kind = 5) (hs1 : U64I s.re) (hs2 : U64I s.im) (hx1 : U64I x.re) (hx2 : U64I x.im) :
    Calls Try.prog 64 #[.agg (stC s sp sn), .agg (pntC x av pv nv)] w fun e w' => e = .returned (.tuple #[.agg (pntC (lessF s x) av pv nv), .agg #[.int .i64 x.h.sc, .int .u64 (x.h.ze : Int), .int .i64 x.h.po, pv, .int .i64 x.h.no, nv]]) ∧ Kept (fun _ => False) w w' := by
  obtain ⟨CS, hCS⟩ : ∃ a, a = stC s sp sn := ⟨_, rfl⟩
  obtain ⟨CX, hCX⟩ : ∃ a, a = pntC x av pv nv := ⟨_, rfl⟩
  have HLI := Lib.hid (fun w => lessFloat_any s sp sn x av pv nv w hv hs1 hs2 hx1 hx2)
  obtain ⟨NX, hNX⟩ : ∃ a, a = pntC (lessF s x) av pv nv := ⟨_, rfl⟩
  have HIN : Hid ((Try.prog.info? 37).map (·.size) = some NX.size) := Lib.hid (point_info.trans (by rw [hNX]; rfl))
  have HSN : Hid ((#[.string { data := #[] }, .slice none 0 0, .int .i64 0, .int .i64 0, .bool false, .int .i64 0, .int .i64 0, .int .i64 0, .int .u64 0, .int .u64 0, .int .i64 0, .int .u64 0, .int .i64 0, .slice none 0 0, .int .i64 0, .slice none 0 0, .int .i64 0] : Array Value).size = NX.size ∧ NX.all (·.oneCell') = true) := Lib.hid (by rw [hNX]; exact ⟨rfl, pntC_one' hv⟩)
  have HOH : Hid ((#[.int .i64 x.h.sc, .int .u64 (x.h.ze : Int), .int .i64 x.h.po, pv, .int .i64 x.h.no, nv] : Array Value).all (·.oneCell') = true) := Lib.hid (histC_one hv.2)
  rw [← hCS, ← hCX, ← hNX] at HLI
  rw [← hCS, ← hCX, ← hNX]
  have HIS : Hid ((Try.prog.info? 32).map (·.size) = some CS.size) := Lib.hid (state_info.trans (by rw [hCS]; rfl))
  have HIX : Hid ((Try.prog.info? 37).map (·.size) = some CX.size) := Lib.hid (point_info.trans (by rw [hCX]; rfl))
  have HCX := Lib.hid hCX
  obtain ⟨q, hq⟩ : ∃ q, q = w.heap.size := ⟨_, rfl⟩
  obtain ⟨w2, hw2⟩ : ∃ w2, w2 = (((w.alloc (.cells CS 32)).alloc (.cells CX 37)).alloc (.cells #[.string { data := #[] }, .slice none 0 0, .int .i64 0, .int .i64 0, .bool false, .int .i64 0, .int .i64 0, .int .i64 0, .int .u64 0, .int .u64 0, .int .i64 0, .int .u64 0, .int .i64 0, .slice none 0 0, .int .i64 0, .slice none 0 0, .int .i64 0] 37)).alloc (.cells #[.int .i64 0, .int .u64 0, .int .i64 0, .slice none 0 0, .int .i64 0, .slice none 0 0] 30) := ⟨_, rfl⟩
  have k2 : Kept (fun _ => False) w w2 := by rw [hw2]; exact ((((Kept.refl _ _).alloc _).alloc _).alloc _).alloc _
  have hb : w2.heap[q]? = some (.cells CS 32 (0, 0)) ∧ w2.heap[q + 1]? = some (.cells CX 37 (0, 0)) ∧ w2.heap[q + 1 + 1]? = some (.cells #[.string { data := #[] }, .slice none 0 0, .int .i64 0, .int .i64 0, .bool false, .int .i64 0, .int .i64 0, .int .i64 0, .int .u64 0, .int .u64 0, .int .i64 0, .int .u64 0, .int .i64 0, .slice none 0 0, .int .i64 0, .slice none 0 0, .int .i64 0] 37 (0, 0)) ∧ w2.heap[q + 1 + 1 + 1]? = some (.cells #[.int .i64 0, .int .u64 0, .int .i64 0, .slice none 0 0, .int .i64 0, .slice none 0 0] 30 (0, 0)) := by rw [hw2, hq]; exact alloc4 w _ _ _ _
  have HW2 := Lib.hid (And.intro hw2 hq)
  have HK02 := Lib.hid k2
  have HGE : Hid (w.heap.size ≤ q) := Lib.hid (by omega)
  have HB := Lib.hid hb
  have HSX : Hid (∀ w', Kept (fun _ => False) w2 w' → (fun w' => w'.heap[q]? = some (.cells CS 32 (0, 0)) ∧ w'.heap[q + 1]? = some (.cells CX 37 (0, 0))) w') := Lib.hid (fun w' k => ⟨k.same HB.out.1 (fun x => x), k.same HB.out.2.1 (fun x => x)⟩)
  have HBX : Hid (∀ w', Kept (fun _ => False) w2 w' → w'.heap[q]? = some (.cells CS 32 (0, 0)) ∧ w'.heap[q + 1]? = some (.cells CX 37 (0, 0)) ∧ w'.heap[q + 1 + 1]? = some (.cells #[.string { data := #[] }, .slice none 0 0, .int .i64 0, .int .i64 0, .bool false, .int .i64 0, .int .i64 0, .int .i64 0, .int .u64 0, .int .u64 0, .int .i64 0, .int .u64 0, .int .i64 0, .slice none 0 0, .int .i64 0, .slice none 0 0, .int .i64 0] 37 (0, 0)) ∧ w'.heap[q + 1 + 1 + 1]? = some (.cells #[.int .i64 0, .int .u64 0, .int .i64 0, .slice none 0 0, .int .i64 0, .slice none 0 0] 30 (0, 0))) := Lib.hid (fun w' k => ⟨k.same HB.out.1 (fun x => x), k.same HB.out.2.1 (fun x => x), k.same HB.out.2.2.1 (fun x => x), k.same HB.out.2.2.2 (fun x => x)⟩)
  have c2 : w2.cell? ⟨q + 1, 2, none⟩ = some (.int .i64 5) := cell_rowZ 2 _ hb.2.1 (by rw [hCX, ← hk]; rfl)
  clear hw2 hq k2 hb hCS hCX hNX hv hk hs1 hs2 hx1 hx2
  have HKd : Hid (Kept (fun _ => False) w2 w2.drew) := Lib.hid (Kept.refl _ _).drew
  have HS0 := Lib.hid (HSX.out w2.drew HKd.out)
  go_enter Try.func64, Try.ntmps64
  go_upto_region 1 with fail
  rw [← HW2.out.1, ← HW2.out.2]
  go_upto_region 6 with fail
  clear c2
  refine AnyBut.start (S := fun w' => w'.heap[q]? = some (.cells CS 32 (0, 0)) ∧ w'.heap[q + 1]? = some (.cells CX 37 (0, 0))) (k := 7) (by kernel_rfl) ?_
  refine AnyBut.takeS (i := 0) (v := ?v1) rfl (by kernel_rfl) (Nat.le_of_eq (by kernel_rfl)) (by kernel_rfl) (by kernel_rfl) (fun _ _ _ h => h) (HS0.out) (Or.inl ⟨by kernel_rfl, ?hy1⟩) ?r1
  case hy1 =>
    intro w hSw
    try dsimp only at hSw
    refine exec_load_row 32 (.tmp 2) ?_ q ?_ 32 _ (0, 0) _ hSw.1 Try.underlying32 rfl HIS.out
    · rfl
    · rfl
  try simp only [Act.put, List.getElem_toArray, List.getElem_cons_zero, List.setIfInBounds_toArray, List.set_cons_zero, List.set_cons_succ]
  refine AnyBut.takeS (i := 1) (v := ?v2) rfl (by kernel_rfl) (Nat.le_of_eq (by kernel_rfl)) (by kernel_rfl) (by kernel_rfl) (fun _ _ _ h => h) (HS0.out) (Or.inl ⟨by kernel_rfl, ?hy2⟩) ?r2
  case hy2 =>
    intro w hSw
    try dsimp only at hSw
    refine exec_load_row 37 (.tmp 3) ?_ (q + 1) ?_ 37 _ (0, 0) _ hSw.2 Try.underlying37 rfl HIX.out
    · rfl
    · rfl
  try simp only [Act.put, List.getElem_toArray, List.getElem_cons_succ, List.getElem_cons_zero, List.setIfInBounds_toArray, List.set_cons_zero, List.set_cons_succ]
  refine AnyBut.takeS (i := 3) (v := ?v3) rfl (by kernel_rfl) (Nat.le_of_eq (by kernel_rfl)) (by kernel_rfl) (by kernel_rfl) (fun _ _ _ h => h) (HS0.out) (Or.inl ⟨by kernel_rfl, ?hy3⟩) ?r3
  case hy3 =>
    intro w hSw
    try dsimp only at hSw
    go_simp
    try with_reducible rfl
  try simp only [Act.put, List.getElem_toArray, List.getElem_cons_succ, List.getElem_cons_zero, List.setIfInBounds_toArray, List.set_cons_zero, List.set_cons_succ]
  refine AnyBut.takeS (i := 4) (v := ?v4) rfl (by kernel_rfl) (Nat.le_of_eq (by kernel_rfl)) (by kernel_rfl) (by kernel_rfl) (fun _ _ _ h => h) (HS0.out) (Or.inl ⟨by kernel_rfl, ?hy4⟩) ?r4
  case hy4 =>
    intro w hSw
    try dsimp only at hSw
    have c10 := cell_rowZ 10 (.int .i64 x.h.sc) hSw.2 (by rw [HCX.out]; rfl)
    have c11 := cell_rowZ 11 (.int .u64 (x.h.ze : Int)) hSw.2 (by rw [HCX.out]; rfl)
    have c12 := cell_rowZ 12 (.int .i64 x.h.po) hSw.2 (by rw [HCX.out]; rfl)
    have c13 := cell_rowZ 13 pv hSw.2 (by rw [HCX.out]; rfl)
    have c14 := cell_rowZ 14 (.int .i64 x.h.no) hSw.2 (by rw [HCX.out]; rfl)
    have c15 := cell_rowZ 15 nv hSw.2 (by rw [HCX.out]; rfl)
    go_simp
    try with_reducible rfl
  try simp only [Act.put, List.getElem_toArray, List.getElem_cons_succ, List.getElem_cons_zero, List.setIfInBounds_toArray, List.set_cons_zero, List.set_cons_succ]
  refine AnyBut.one (i := 2) (by kernel_rfl) rfl (fun K hK => ?_)
  go_simp
  go_wp2_with fail
  refine (HLI.out _).mono ?_
  rintro e w3 ⟨rfl, k3⟩
  have HK3 := Lib.hid (HKd.out.trans k3)
  have HS3 := Lib.hid (HSX.out w3 HK3.out)
  clear k3
  go_wp2
  refine hK.out _ _ (HS3.out) ?_
  clear hK K
  try simp only [Act.put, List.getElem_toArray, List.getElem_cons_succ, List.getElem_cons_zero, List.setIfInBounds_toArray, List.set_cons_zero, List.set_cons_succ]
  refine AnyBut.one (i := 5) (by kernel_rfl) rfl (fun K hK => ?_)
  refine step_store_row (by rfl) 37 (.tmp 4) (.tmp 25) (by rfl) (q + 1 + 1) NX (by rfl) (by rfl) 37 #[.string { data := #[] }, .slice none 0 0, .int .i64 0, .int .i64 0, .bool false, .int .i64 0, .int .i64 0, .int .i64 0, .int .u64 0, .int .u64 0, .int .i64 0, .int .u64 0, .int .i64 0, .slice none 0 0, .int .i64 0, .slice none 0 0, .int .i64 0] (HBX.out w3 HK3.out).2.2.1 HIN.out HSN.out.1 HSN.out.2 ?_
  have HK5 : Hid (Kept (fun i => i = q + 1 + 1) w3 (w3.setRow (q + 1 + 1) NX)) := Lib.hid (setRow_keptW _ _ _)
  have HB5 : Hid (((w3.setRow (q + 1 + 1) NX).heap[q + 1 + 1]? = some (.cells NX 37 (0, 0))) ∧ ((w3.setRow (q + 1 + 1) NX).heap[q + 1 + 1 + 1]? = some (.cells #[.int .i64 0, .int .u64 0, .int .i64 0, .slice none 0 0, .int .i64 0, .slice none 0 0] 30 (0, 0)))) := Lib.hid ⟨setRow_heap _ _ _ _ _ _ (HBX.out w3 HK3.out).2.2.1, HK5.out.same (HBX.out w3 HK3.out).2.2.2 (by omega)⟩
  have HS5 : Hid ((fun w' => w'.heap[q]? = some (.cells CS 32 (0, 0)) ∧ w'.heap[q + 1]? = some (.cells CX 37 (0, 0))) (w3.setRow (q + 1 + 1) NX)) := Lib.hid ⟨HK5.out.same HS3.out.1 (by omega), HK5.out.same HS3.out.2 (by omega)⟩
  refine hK.out _ _ (HS5.out) ?_
  clear hK K
  try simp only [Act.put, List.getElem_toArray, List.getElem_cons_succ, List.getElem_cons_zero]
  refine AnyBut.one (i := 6) (by kernel_rfl) rfl (fun K hK => ?_)
  refine step_store_row (by rfl) 30 (.tmp 5) (.tmp 27) (by rfl) (q + 1 + 1 + 1) #[.int .i64 x.h.sc, .int .u64 (x.h.ze : Int), .int .i64 x.h.po, pv, .int .i64 x.h.no, nv] (by rfl) (by rfl) 30 #[.int .i64 0, .int .u64 0, .int .i64 0, .slice none 0 0, .int .i64 0, .slice none 0 0] HB5.out.2 hist_info rfl HOH.out ?_
  have HK6 : Hid (Kept (fun i => i = q + 1 + 1 + 1) (w3.setRow (q + 1 + 1) NX) ((w3.setRow (q + 1 + 1) NX).setRow (q + 1 + 1 + 1) #[.int .i64 x.h.sc, .int .u64 (x.h.ze : Int), .int .i64 x.h.po, pv, .int .i64 x.h.no, nv])) := Lib.hid (setRow_keptW _ _ _)
  have HB6 := Lib.hid (And.intro (HK6.out.same HB5.out.1 (by omega)) (setRow_heap _ _ _ #[.int .i64 x.h.sc, .int .u64 (x.h.ze : Int), .int .i64 x.h.po, pv, .int .i64 x.h.no, nv] _ _ HB5.out.2))
  have HS6 : Hid ((fun w' => w'.heap[q]? = some (.cells CS 32 (0, 0)) ∧ w'.heap[q + 1]? = some (.cells CX 37 (0, 0))) ((w3.setRow (q + 1 + 1) NX).setRow (q + 1 + 1 + 1) #[.int .i64 x.h.sc, .int .u64 (x.h.ze : Int), .int .i64 x.h.po, pv, .int .i64 x.h.no, nv])) := Lib.hid ⟨HK6.out.same HS5.out.1 (by omega), HK6.out.same HS5.out.2 (by omega)⟩
  refine hK.out _ _ (HS6.out) ?_
  clear hK K
  try simp only [Act.put, List.getElem_toArray, List.getElem_cons_succ, List.getElem_cons_zero]
  refine AnyBut.done (by kernel_rfl) ?_
  go_wp2
  refine bodyPost_ret (results_cc Try.results64 _ _ (q + 1 + 1) (q + 1 + 1 + 1) 37 30 _ _ (0, 0) (0, 0) _ _ rfl HB6.out.1 Try.underlying37 rfl HIN.out rfl HB6.out.2 Try.underlying30 rfl hist_info) rfl ?_
  exact ⟨rfl, ((HK02.out.trans HK3.out).newer HK5.out (fun i e => by have := HGE.out; omega)).newer HK6.out (fun i e => by have := HGE.out; omega)⟩
end Go.Proofs.Ytiiibhdohlpodaa

