/- Texts put together: what the theorem stands on. -/
import Derived.Test.YtiiibhdohlpodaaZz7
import Derived.Test.YtiiibhdohlpodaaZz11
import Derived.Test.YtiiibhdohlpodaaZz12

namespace Go.Proofs.Ytiiibhdohlpodaa
open Go.RowKit
attribute [local go_sem ↓] Go.wp_at_zero Go.wp_at_succ
/-- The box of Next: the answer. -/
structure NC (W w : World) (g9 : Nat) (OX : Array Value) (x : Pnt) (a1 a2 a3 : Option Addr) (c1 c2 c3 : Nat) : Prop where
  k : Kept (fun _ => False) W w
  bo : w.heap[g9]? = some (.cells OX 37 (0, 0))
  lt : W.heap.size ≤ g9
  new : NewP W w x a1 a2 a3 c1 c2 c3
section
variable {W w w' : World} {g9 : Nat} {OX OX' : Array Value} {x : Pnt} {a1 a2 a3 : Option Addr} {c1 c2 c3 : Nat}
theorem NC.on (h : NC W w g9 OX x a1 a2 a3 c1 c2 c3) (k : Kept (fun _ => False) w w') : NC W w' g9 OX x a1 a2 a3 c1 c2 c3 := ⟨h.k.trans k, k.same h.bo (fun x => x), h.lt, h.new.on k⟩
theorem NC.out (h : NC W w g9 OX x a1 a2 a3 c1 c2 c3) (kk : Kept (fun i => i = g9) w w') (hb : w'.heap[g9]? = some (.cells OX' 37 (0, 0))) : NC W w' g9 OX' x a1 a2 a3 c1 c2 c3 :=
  ⟨h.k.newer kk (fun _ e => by rw [e]; exact h.lt), hb, h.lt, h.new.set h.bo (by decide) (by decide) h.lt kk⟩
theorem NC.put (h : NC W w g9 OX x a1 a2 a3 c1 c2 c3) (i : Nat) (v : Value) (e : OX.setIfInBounds i v = OX') : NC W (w.setCell ⟨g9, i, none⟩ v) g9 OX' x a1 a2 a3 c1 c2 c3 :=
  h.out ((Kept.refl (fun k => k = g9) w).setCell (p := ⟨g9, i, none⟩) (fun _ => rfl) _) (by rw [← e]; exact heap_setCell_same _ _ i _ _ _ h.bo)
/-- A box elsewhere is written. -/
theorem NC.out' {k : Nat} {cs : Array Value} {T : TypeId} (h : NC W w g9 OX x a1 a2 a3 c1 c2 c3) (kk : Kept (fun i => i = k) w w') (hb : w.heap[k]? = some (.cells cs T (0, 0))) (h1 : 101 ≠ T) (h2 : 25 ≠ T) (h3 : 37 ≠ T) (h0 : W.heap.size ≤ k) : NC W w' g9 OX x a1 a2 a3 c1 c2 c3 :=
  ⟨h.k.newer kk (fun _ e => by rw [e]; exact h0), kk.same h.bo (box_ne h.bo hb h3), h.lt, h.new.set hb h1 h2 h0 kk⟩
/-- The answer is another one: it is stored over the box. -/
theorem NC.over {y : Pnt} {b1 b2 b3 : Option Addr} {d1 d2 d3 : Nat} (h : NC W w g9 OX x a1 a2 a3 c1 c2 c3) (n : NewP W w y b1 b2 b3 d1 d2 d3) (kk : Kept (fun i => i = g9) w w') (hb : w'.heap[g9]? = some (.cells OX' 37 (0, 0))) : NC W w' g9 OX' y b1 b2 b3 d1 d2 d3 :=
  ⟨h.k.newer kk (fun _ e => by rw [e]; exact h.lt), hb, h.lt, n.set h.bo (by decide) (by decide) h.lt kk⟩
end
theorem hclone_new (y : Pnt) (w : World) {b1 b2 b3 : Option Addr} {d1 d2 d3 : Nat} {W : World} (n : NewP W w y b1 b2 b3 d1 d2 d3) (l1 : y.h.pl.length ≤ 1000000) (l2 : y.h.nl.length ≤ 1000000) :
    Calls Try.prog 51 #[.agg #[.int .i64 y.h.sc, .int .u64 (y.h.ze : Int), .int .i64 y.h.po, .slice b2 y.h.pl.length d2, .int .i64 y.h.no, .slice b3 y.h.nl.length d3]] w fun e w' =>
      ∃ r2 r3 q2 q3, e = .returned (.agg #[.int .i64 y.h.sc, .int .u64 (y.h.ze : Int), .int .i64 y.h.po, .slice r2 y.h.pl.length q2, .int .i64 y.h.no, .slice r3 y.h.nl.length q3]) ∧ HN w w' y.h r2 r3 q2 q3 := by
  refine (hclone_any y.h (.slice b2 y.h.pl.length d2) (.slice b3 y.h.nl.length d3) w n.pnt.hist l1 l2).mono ?_
  rintro e w' ⟨p, q, rfl, m1, m2⟩
  obtain ⟨r2, r3, q2, q3, rfl, rfl, hn⟩ := HN.of m1 m2
  exact ⟨r2, r3, q2, q3, rfl, hn⟩
theorem HN.nil {W w : World} (k : Kept (fun _ => False) W w) : HN W w zeroHV none none 0 0 := ⟨Mine.nil' _ k, Mine.nil' _ k⟩
/-- What is told of a state's histogram behind a call. -/
def StN (W w : World) (h : HistV) (tp tn : Value) : Prop := ∃ a b c d, tp = .slice a h.pl.length c ∧ tn = .slice b h.nl.length d ∧ HN W w h a b c d
theorem moreW_parts (s : StV) (x : Pnt) : (moreW s x).L = x.L ∧ (moreW s x).h = x.h := by
  unfold moreW
  split <;> exact ⟨rfl, rfl⟩
/-- What holds of a point that was taken. -/
structure Fine (f : Pnt) : Prop where
  kd : f.kind = 1 ∨ f.kind = 2 ∨ f.kind = 4 ∨ f.kind = 5
  h : f.h.ok
  lp : f.h.pl.length ≤ 1000000
  ln : f.h.nl.length ≤ 1000000
  re : U64I f.re
  im : U64I f.im
theorem takenF_right {x : Pnt} {t most : Int} (hok : x.ok) (hli : x.light) (h : (takenF x t most).2 = 0) (ht : t = 1 ∨ t = 2 := by decide) : Fine (takenF x t most).1 := by
  obtain ⟨h1, hc⟩ := takenF_zero h
  obtain ⟨hk, htp, hfl⟩ := takenE_zero h1
  have hkb := (chk_parts hk).2.1
  have hkd : x.kind = 1 ∨ x.kind = 2 ∨ x.kind = 4 ∨ x.kind = 5 := by
    unfold kindB at hkb
    simp only [decide_eq_true_eq] at hkb
    rcases hkb with ⟨_, e⟩ | ⟨e, _⟩
    · omega
    · exact e
  rcases hc with ⟨k4, f0, e⟩ | ⟨k4, e⟩
  · obtain ⟨he, b, hb, e2, er, eo, ef⟩ := fitG_right hok.h f0
    have hl := few_err er
    rw [e]
    exact ⟨hkd, eo, hl.1, hl.2, hok.re, hok.im⟩
  · rw [e]
    exact ⟨hkd, hok.h, by have := hli.pl; omega, by have := hli.nl; omega, hok.re, hok.im⟩
theorem moreA_len {s : StV} {x : Pnt} {most : Int} (os : s.h.ok) (ox : x.h.ok) (l1 : x.h.pl.length ≤ 1000000) (l2 : x.h.nl.length ≤ 1000000) : (moreA s x most).h.pl.length ≤ 1000000 ∧ (moreA s x most).h.nl.length ≤ 1000000 := by
  unfold moreA
  split
  · rw [(moreW_parts s x).2]; exact ⟨l1, l2⟩
  · split
    · split
      · rename_i hr
        have hh := togH_right (a := s.h) (b := x.h) (most := most) (R := (togH s.h x.h most).1) os ox (by rw [← hr])
        exact few_err hh.2.2.1
      · exact ⟨l1, l2⟩
    · split <;> exact ⟨l1, l2⟩
theorem moreA_any (s : StV) (sp sn : Value) (x : Pnt) (a1 a2 a3 : Option Addr) (c1 c2 c3 : Nat) (most : Int) (W w : World) (n : NewP W w x a1 a2 a3 c1 c2 c3) (hk : x.kind = 1 ∨ x.kind = 2 ∨ x.kind = 4 ∨ x.kind = 5)
    (hs : HistIn w s.h sp sn) (ho : x.h.ok) (ls1 : s.h.pl.length ≤ 1000000) (ls2 : s.h.nl.length ≤ 1000000) (lx1 : x.h.pl.length ≤ 1000000) (lx2 : x.h.nl.length ≤ 1000000) (hs1 : U64I s.re) (hs2 : U64I s.im) (hx1 : U64I x.re) (hx2 : U64I x.im) :
    Calls Try.prog 50 #[.agg (stC s sp sn), .agg (pntC x (.slice a1 x.L.length c1) (.slice a2 x.h.pl.length c2) (.slice a3 x.h.nl.length c3)), .int .i64 most] w fun e w' => ∃ v, e = .returned v ∧ GotP W w' (moreA s x most) v ∧ Kept (fun _ => False) w w' := by
  rcases hk with hk | hk | hk | hk
  · refine (moreC_any s sp sn x _ _ _ w most (ones_slices _ _ _ _ _ _ _ _ _) hk).mono ?_
    rintro e w' ⟨rfl, k⟩
    refine ⟨_, rfl, ?_, k⟩
    rw [show moreA s x most = moreW s x by unfold moreA; rw [if_pos hk]]
    exact GotP.parts (n.on k) (moreW_parts s x)
  · exact more2_any s sp sn x a1 a2 a3 c1 c2 c3 most W w n hk hs1 hs2 hx1 hx2
  · exact more4_any s sp sn x a1 a2 a3 c1 c2 c3 most W w n hk hs ho ls1 ls2 lx1 lx2
  · exact more5_any s sp sn x a1 a2 a3 c1 c2 c3 most W w n hk hs1 hs2 hx1 hx2
set_option maxHeartbeats 3000000 in
set_option maxRecDepth 100000 in
theorem nextA_any (s : StV) (sp sn : Value) (x : Pnt) (aa pa na : Option Addr) (ac pc nc : Nat) (most : Int) (w : World) (ha : PntAt w x aa ac (.slice pa x.h.pl.length pc) (.slice na x.h.nl.length nc)) (hok : x.ok) (hli : x.light)
    (hsp : True) (hh : HistIn w s.h sp sn) (ls1 : s.h.pl.length ≤ 1000000) (ls2 : s.h.nl.length ≤ 1000000) (hs1 : U64I s.re) (hs2 : U64I s.im) :
    Calls Try.prog 23 #[.agg (stC s sp sn), pntV x (.slice aa x.L.length ac) (.slice pa x.h.pl.length pc) (.slice na x.h.nl.length nc), .int .i64 most] w fun e w' =>
      ∃ tp tn v, e = .returned (.tuple #[.agg (stC (nextAS s x most) tp tn), v, .int .i64 (stepA s x most)]) ∧ StN w w' (nextAS s x most).h tp tn ∧ GotP w w' (nextAP s x most) v := by
  obtain ⟨CS, hCS⟩ : ∃ a, a = stC s sp sn := ⟨_, rfl⟩
  obtain ⟨CX, hCX⟩ : ∃ a, a = pntC x (.slice aa x.L.length ac) (.slice pa x.h.pl.length pc) (.slice na x.h.nl.length nc) := ⟨_, rfl⟩
  have hvx : pntV x (.slice aa x.L.length ac) (.slice pa x.h.pl.length pc) (.slice na x.h.nl.length nc) = .agg CX := by rw [hCX]; rfl
  rw [← hCS]
  have HIS : Hid ((Try.prog.info? 32).map (·.size) = some CS.size) := Lib.hid (state_info.trans (by rw [hCS]; rfl))
  have HIX : Hid ((Try.prog.info? 37).map (·.size) = some CX.size) := Lib.hid (point_info.trans (by rw [hCX]; rfl))
  have HCS := Lib.hid hCS
  have HSP := Lib.hid hsp
  have HHS := Lib.hid hh
  have HLS := Lib.hid (And.intro ls1 ls2)
  have HU := Lib.hid (And.intro hs1 hs2)
  obtain ⟨q, hq⟩ : ∃ q, q = w.heap.size := ⟨_, rfl⟩
  obtain ⟨w2, hw2⟩ : ∃ w2, w2 = (((w.alloc (.cells CS 32)).alloc (.cells CX 37)).alloc (.cells #[.bool false, .int .i64 0, .int .i64 0, .int .i64 0, .int .u64 0, .int .u64 0, .int .i64 0, .int .u64 0, .int .i64 0, .slice none 0 0, .int .i64 0, .slice none 0 0] 32)).alloc (.cells #[.string { data := #[] }, .slice none 0 0, .int .i64 0, .int .i64 0, .bool false, .int .i64 0, .int .i64 0, .int .i64 0, .int .u64 0, .int .u64 0, .int .i64 0, .int .u64 0, .int .i64 0, .slice none 0 0, .int .i64 0, .slice none 0 0, .int .i64 0] 37) := ⟨_, rfl⟩
  have k2 : Kept (fun _ => False) w w2 := by rw [hw2]; exact ((((Kept.refl _ _).alloc _).alloc _).alloc _).alloc _
  have hb : w2.heap[q]? = some (.cells CS 32 (0, 0)) ∧ w2.heap[q + 1]? = some (.cells CX 37 (0, 0)) ∧ w2.heap[q + 1 + 1]? = some (.cells #[.bool false, .int .i64 0, .int .i64 0, .int .i64 0, .int .u64 0, .int .u64 0, .int .i64 0, .int .u64 0, .int .i64 0, .slice none 0 0, .int .i64 0, .slice none 0 0] 32 (0, 0)) ∧ w2.heap[q + 1 + 1 + 1]? = some (.cells #[.string { data := #[] }, .slice none 0 0, .int .i64 0, .int .i64 0, .bool false, .int .i64 0, .int .i64 0, .int .i64 0, .int .u64 0, .int .u64 0, .int .i64 0, .int .u64 0, .int .i64 0, .slice none 0 0, .int .i64 0, .slice none 0 0, .int .i64 0] 37 (0, 0)) := by rw [hw2, hq]; exact alloc4 w _ _ _ _
  have HW2 := Lib.hid (And.intro hw2 hq)
  have HK02 := Lib.hid k2
  have HGE : Hid (w.heap.size ≤ q) := Lib.hid (by omega)
  have HB := Lib.hid hb
  have HBX : Hid (∀ w', Kept (fun _ => False) w2 w' → w'.heap[q]? = some (.cells CS 32 (0, 0)) ∧ w'.heap[q + 1]? = some (.cells CX 37 (0, 0)) ∧ w'.heap[q + 1 + 1]? = some (.cells #[.bool false, .int .i64 0, .int .i64 0, .int .i64 0, .int .u64 0, .int .u64 0, .int .i64 0, .int .u64 0, .int .i64 0, .slice none 0 0, .int .i64 0, .slice none 0 0] 32 (0, 0)) ∧ w'.heap[q + 1 + 1 + 1]? = some (.cells #[.string { data := #[] }, .slice none 0 0, .int .i64 0, .int .i64 0, .bool false, .int .i64 0, .int .i64 0, .int .i64 0, .int .u64 0, .int .u64 0, .int .i64 0, .int .u64 0, .int .i64 0, .slice none 0 0, .int .i64 0, .slice none 0 0, .int .i64 0] 37 (0, 0))) := Lib.hid (fun w' k => ⟨k.same HB.out.1 (fun x => x), k.same HB.out.2.1 (fun x => x), k.same HB.out.2.2.1 (fun x => x), k.same HB.out.2.2.2 (fun x => x)⟩)
  have HTK := Lib.hid (fun w' (k : Kept (fun _ => False) w2 w') => takenA_any x aa pa na ac pc nc 2 most w' (ha.on (k2.trans k)) hok hli)
  have HFR := Lib.hid (takenF_right (t := 2) (most := most) hok hli)
  rw [hvx] at HTK ⊢
  unfold nextAS nextAP stepA
  obtain ⟨f, hf⟩ : ∃ f, f = (takenF x 2 most).1 := ⟨_, rfl⟩
  obtain ⟨E, hE⟩ : ∃ f, f = (takenF x 2 most).2 := ⟨_, rfl⟩
  rw [← hf, ← hE] at HTK HFR
  rw [← hf, ← hE]
  clear hw2 hq k2 hb hCX hvx ha hok hli hCS hsp hh ls1 ls2 hs1 hs2 hf hE
  by_cases hT : E = 0
  case neg =>
    rw [if_pos hT, if_neg (by omega), if_neg (by omega)]
    obtain ⟨n, hn⟩ : ∃ n : Int, n = ((E : Nat) : Int) := ⟨_, rfl⟩
    rw [← hn] at HTK
    rw [← hn]
    have q1 : (n == 0) = false := by rw [beq_eq_false_iff_ne]; omega
    have q2 : (n != 0) = true := by rw [bne_iff_ne]; omega
    clear hn hT HFR
    go_enter Try.func23, Try.ntmps23
    go_upto_region 1 with fail
    rw [← HW2.out.1, ← HW2.out.2]
    go_wp2_with (first
      | (refine wpList_load_row rfl 37 (.tmp 4) rfl (q + 1) rfl 37 _ (0, 0) _ HB.out.2.1 Try.underlying37 rfl HIX.out ?_)
      | fail)
    refine (HTK.out w2 (Kept.refl _ _)).mono ?_
    rintro e w3 ⟨v, rfl, g3⟩
    have HG3 := Lib.hid g3
    obtain ⟨CY, rfl, hi, hs, h1⟩ := g3.cells
    have HIY := Lib.hid hi
    have HSY := Lib.hid (And.intro hs h1)
    have HK3 := Lib.hid g3.kept
    clear g3 hi hs h1
    obtain ⟨g9, hg9⟩ : ∃ g, g = w3.heap.size := ⟨_, rfl⟩
    have HG9 := Lib.hid hg9
    clear hg9
    go_upto_region 2 with (refine wpList_store_box rfl 37 (.tmp 9) _ rfl w3 _ CY 37 rfl rfl rfl HIY.out (by rw [HSY.out.1]; rfl) HSY.out.2 ?_; intro w4 hb4 k4; have HK4 := Lib.hid (HK3.out.trans k4); clear hb4 k4)
    rw [← HG9.out]
    go_wp2_with (first
      | (refine wpList_store_row rfl 32 (.tmp 6) _ rfl (q + 1 + 1) #[.bool false, .int .i64 0, .int .i64 0, .int .i64 0, .int .u64 0, .int .u64 0, .int .i64 0, .int .u64 0, .int .i64 0, .slice none 0 0, .int .i64 0, .slice none 0 0] rfl rfl 32 _ (HBX.out w4 HK4.out).2.2.1 state_info rfl (stC_one (s := zeroSt) ⟨rfl, rfl⟩) ?_)
      | (refine wpList_store_row rfl 37 (.tmp 7) _ rfl (q + 1 + 1 + 1) #[.string { data := #[] }, .slice none 0 0, .int .i64 0, .int .i64 0, .bool false, .int .i64 0, .int .i64 0, .int .i64 0, .int .u64 0, .int .u64 0, .int .i64 0, .int .u64 0, .int .i64 0, .slice none 0 0, .int .i64 0, .slice none 0 0, .int .i64 0] rfl rfl 37 _ ((setRow_keptW _ _ _).same (HBX.out w4 HK4.out).2.2.2 (by omega)) point_info rfl (pntC_one' (x := zeroPt) (ones_slices _ _ _ _ _ _ _ _ _)) ?_)
      | fail)
    have kz1 : Kept (fun i => i = q + 1 + 1) w4 (w4.setRow (q + 1 + 1) #[.bool false, .int .i64 0, .int .i64 0, .int .i64 0, .int .u64 0, .int .u64 0, .int .i64 0, .int .u64 0, .int .i64 0, .slice none 0 0, .int .i64 0, .slice none 0 0]) := setRow_keptW _ _ _
    have kz2 : Kept (fun i => i = q + 1 + 1 + 1) (w4.setRow (q + 1 + 1) #[.bool false, .int .i64 0, .int .i64 0, .int .i64 0, .int .u64 0, .int .u64 0, .int .i64 0, .int .u64 0, .int .i64 0, .slice none 0 0, .int .i64 0, .slice none 0 0]) ((w4.setRow (q + 1 + 1) #[.bool false, .int .i64 0, .int .i64 0, .int .i64 0, .int .u64 0, .int .u64 0, .int .i64 0, .int .u64 0, .int .i64 0, .slice none 0 0, .int .i64 0, .slice none 0 0]).setRow (q + 1 + 1 + 1) #[.string { data := #[] }, .slice none 0 0, .int .i64 0, .int .i64 0, .bool false, .int .i64 0, .int .i64 0, .int .i64 0, .int .u64 0, .int .u64 0, .int .i64 0, .int .u64 0, .int .i64 0, .slice none 0 0, .int .i64 0, .slice none 0 0, .int .i64 0]) := setRow_keptW _ _ _
    refine bodyPost_ret (results_cct Try.results23 _ _ (q + 1 + 1) (q + 1 + 1 + 1) 32 37 _ _ (0, 0) (0, 0) _ _ rfl (kz2.same (setRow_heap _ _ _ _ _ _ (HBX.out w4 HK4.out).2.2.1) (by omega)) Try.underlying32 rfl state_info rfl (setRow_heap _ _ _ _ _ _ (kz1.same (HBX.out w4 HK4.out).2.2.2 (by omega))) Try.underlying37 rfl point_info) rfl ?_
    have kz3 := ((HK02.out.trans HK4.out).newer kz1 (fun i e => by have := HGE.out; omega)).newer kz2 (fun i e => by have := HGE.out; omega)
    exact ⟨.slice none 0 0, .slice none 0 0, _, rfl, ⟨none, none, 0, 0, rfl, rfl, HN.nil kz3⟩, GotP.zero kz3⟩
  subst hT
  rw [if_neg (show ¬ ((0 : Nat) ≠ 0) by decide)]
  have HFO := Lib.hid (HFR.out rfl)
  clear HFR
  have HLT := Lib.hid (fun av pv nv w => lateC_any s sp sn f av pv nv w)
  rw [← HCS.out] at HLT
  cases hsm : s.some with
  | false =>
    have HSM := Lib.hid hsm
    rw [if_neg (show ¬ (false = true) by decide), if_pos (show (0 : Int) = 0 from rfl), if_pos (show (0 : Int) = 0 from rfl)]
    go_enter Try.func23, Try.ntmps23
    go_upto_region 1 with fail
    rw [← HW2.out.1, ← HW2.out.2]
    go_wp2_with (first
      | (refine wpList_load_row rfl 37 (.tmp 4) rfl (q + 1) rfl 37 _ (0, 0) _ HB.out.2.1 Try.underlying37 rfl HIX.out ?_)
      | fail)
    refine (HTK.out w2 (Kept.refl _ _)).mono ?_
    rintro e w3 ⟨v, rfl, g3⟩
    have HG3 := Lib.hid g3
    obtain ⟨CY, rfl, hi, hs, h1⟩ := g3.cells
    have HIY := Lib.hid hi
    have HSY := Lib.hid (And.intro hs h1)
    have HK3 := Lib.hid g3.kept
    clear g3 hi hs h1
    obtain ⟨g9, hg9⟩ : ∃ g, g = w3.heap.size := ⟨_, rfl⟩
    have HG9 := Lib.hid hg9
    clear hg9
    go_upto_region 2 with (refine wpList_store_box rfl 37 (.tmp 9) _ rfl w3 _ CY 37 rfl rfl rfl HIY.out (by rw [HSY.out.1]; rfl) HSY.out.2 ?_; intro w4 hb4 k4; have HK4 := Lib.hid (HK3.out.trans k4); have HN4 : Hid (∃ a1 a2 a3 c1 c2 c3, CY = pntC f (.slice a1 f.L.length c1) (.slice a2 f.h.pl.length c2) (.slice a3 f.h.nl.length c3) ∧ NC w2 w4 g9 CY f a1 a2 a3 c1 c2 c3) := Lib.hid (by obtain ⟨a1, a2, a3, c1, c2, c3, e, n⟩ := HG3.out; injection e with e; exact ⟨a1, a2, a3, c1, c2, c3, e, ⟨HK3.out.trans k4, by rw [HG9.out]; exact hb4, by rw [HG9.out]; exact HK3.out.size, n.on k4⟩⟩); have s0 : w4.cell? ⟨q, 0, none⟩ = some (.bool false) := cell_rowZ 0 _ (HBX.out w4 HK4.out).1 (by rw [HCS.out, ← hsm]; rfl); clear hb4 k4)
    rw [← HG9.out]
    obtain ⟨a1, a2, a3, c1, c2, c3, hcy, n4⟩ := HN4.out
    have HCY := Lib.hid hcy
    have HNA := Lib.hid n4
    clear hcy n4
    clear hsm
    go_upto_region 6 with fail
    clear s0
    have c3' : w4.cell? ⟨g9, 3, none⟩ = some (.int .i64 f.temp) := cell_rowZ 3 _ HNA.out.bo (by first | rfl | (rw [HCY.out]; rfl))
    have f3' := free_of_rowZ 3 HNA.out.bo
    go_upto_region 8 with fail
    clear c3' f3'
    have HNB := Lib.hid (HNA.out.put 3 (.int .i64 1) (OX' := pntC { f with temp := 1 } (.slice a1 f.L.length c1) (.slice a2 f.h.pl.length c2) (.slice a3 f.h.nl.length c3)) (by first | rfl | (rw [HCY.out]; rfl)))
    clear HNA
    obtain ⟨w6, hwn⟩ : ∃ w', w' = w4.setCell ⟨g9, 3, none⟩ (.int .i64 1) := ⟨_, rfl⟩
    rw [← hwn] at HNB
    rw [← hwn]
    clear hwn
    have s0 : w6.cell? ⟨q, 0, none⟩ = some (.bool false) := cell_rowZ 0 _ (HBX.out w6 HNB.out.k).1 (by rw [HCS.out, ← HSM.out]; rfl)
    have HOW : Hid (outA s f most = { f with temp := 1, flags := 1 }) := Lib.hid (by unfold outA; rw [if_pos HSM.out])
    have c16' : w6.cell? ⟨g9, 16, none⟩ = some (.int .i64 f.flags) := cell_rowZ 16 _ HNB.out.bo (by first | rfl | (rw [HCY.out]; rfl))
    have f16' := free_of_rowZ 16 HNB.out.bo
    go_upto_region 12 with fail
    clear c16' f16'
    have HNE := Lib.hid (HNB.out.put 16 (.int .i64 1) (OX' := pntC { f with temp := 1, flags := 1 } (.slice a1 f.L.length c1) (.slice a2 f.h.pl.length c2) (.slice a3 f.h.nl.length c3)) (by first | rfl | (rw [HCY.out]; rfl)))
    clear HNB
    obtain ⟨w7, hwn⟩ : ∃ w', w' = w6.setCell ⟨g9, 16, none⟩ (.int .i64 1) := ⟨_, rfl⟩
    rw [← hwn] at HNE
    rw [← hwn]
    clear hwn
    clear s0
    obtain ⟨Y, hY⟩ : ∃ y : Pnt, y = { f with temp := 1, flags := 1 } := ⟨_, rfl⟩
    obtain ⟨NX, hNX⟩ : ∃ a, a = pntC { f with temp := 1, flags := 1 } (.slice a1 f.L.length c1) (.slice a2 f.h.pl.length c2) (.slice a3 f.h.nl.length c3) := ⟨_, rfl⟩
    have HY1 : Hid (∃ b1 b2 b3 d1 d2 d3, NX = pntC Y (.slice b1 Y.L.length d1) (.slice b2 Y.h.pl.length d2) (.slice b3 Y.h.nl.length d3) ∧ NC w2 w7 g9 NX Y b1 b2 b3 d1 d2 d3) := Lib.hid (by rw [hY]; exact ⟨a1, a2, a3, c1, c2, c3, hNX, HNE.out.k, by rw [hNX]; exact HNE.out.bo, HNE.out.lt, ⟨HNE.out.new.at_, HNE.out.new.mp, HNE.out.new.mn⟩⟩)
    have HL1 : Hid (Y.h.pl.length ≤ 1000000 ∧ Y.h.nl.length ≤ 1000000) := Lib.hid (by rw [hY]; exact ⟨HFO.out.lp, HFO.out.ln⟩)
    have HOW2 : Hid (outA s f most = Y) := Lib.hid (by rw [HOW.out, hY])
    clear hNX hY HNE
    obtain ⟨b1, b2, b3, d1, d2, d3, hNX, hNE⟩ := HY1.out
    clear HY1
    have HNX := Lib.hid hNX
    have HNY := Lib.hid hNE
    have HIN : Hid ((Try.prog.info? 37).map (·.size) = some NX.size ∧ NX.size = 17 ∧ NX.all (·.oneCell') = true) := Lib.hid (by rw [hNX]; exact ⟨point_info, rfl, pntC_one' (ones_slices _ _ _ _ _ _ _ _ _)⟩)
    clear hNX hNE
    have HHX := Lib.hid (fun w (n : NewP w2 w Y b1 b2 b3 d1 d2 d3) => hclone_new Y w n HL1.out.1 HL1.out.2)
    go_upto_region 12 with fail
    obtain ⟨wD, hwd⟩ : ∃ w', w' = w7.drew := ⟨_, rfl⟩
    refine AnyBut.start (S := fun w' => w'.heap[g9]? = some (.cells NX 37 (0, 0))) (k := 16) (by kernel_rfl) ?_
    rw [← hwd]
    have HKD : Hid (Kept (fun _ => False) w7 wD) := Lib.hid (by rw [hwd]; exact (Kept.refl _ _).drew)
    have HND := Lib.hid (HNY.out.on HKD.out)
    have HS0' : Hid ((fun w' => w'.heap[g9]? = some (.cells NX 37 (0, 0))) wD) := Lib.hid HND.out.bo
    clear hwd
    refine AnyBut.takeS (i := 0) (v := ?v1) rfl (by kernel_rfl) (Nat.le_of_eq (by kernel_rfl)) (by kernel_rfl) (by kernel_rfl) (fun _ _ _ h => h) (HS0'.out) (Or.inl ⟨by kernel_rfl, ?hy1⟩) ?r1
    case hy1 =>
      intro w hSw
      try dsimp only at hSw
      go_simp
      try with_reducible rfl
    try simp only [Act.put, List.getElem_toArray, List.getElem_cons_zero, List.setIfInBounds_toArray, List.set_cons_zero, List.set_cons_succ]
    refine AnyBut.takeS (i := 1) (v := ?v2) rfl (by kernel_rfl) (Nat.le_of_eq (by kernel_rfl)) (by kernel_rfl) (by kernel_rfl) (fun _ _ _ h => h) (HS0'.out) (Or.inl ⟨by kernel_rfl, ?hy2⟩) ?r2
    case hy2 =>
      intro w hSw
      try dsimp only at hSw
      have c5 := cell_rowZ 5 (.int .i64 Y.start) hSw (by rw [HNX.out]; rfl)
      go_simp
      try with_reducible rfl
    try simp only [Act.put, List.getElem_toArray, List.getElem_cons_succ, List.getElem_cons_zero, List.setIfInBounds_toArray, List.set_cons_zero, List.set_cons_succ]
    refine AnyBut.takeS (i := 2) (v := ?v3) rfl (by kernel_rfl) (Nat.le_of_eq (by kernel_rfl)) (by kernel_rfl) (by kernel_rfl) (fun _ _ _ h => h) (HS0'.out) (Or.inl ⟨by kernel_rfl, ?hy3⟩) ?r3
    case hy3 =>
      intro w hSw
      try dsimp only at hSw
      go_simp
      try with_reducible rfl
    try simp only [Act.put, List.getElem_toArray, List.getElem_cons_succ, List.getElem_cons_zero, List.setIfInBounds_toArray, List.set_cons_zero, List.set_cons_succ]
    refine AnyBut.takeS (i := 3) (v := ?v4) rfl (by kernel_rfl) (Nat.le_of_eq (by kernel_rfl)) (by kernel_rfl) (by kernel_rfl) (fun _ _ _ h => h) (HS0'.out) (Or.inl ⟨by kernel_rfl, ?hy4⟩) ?r4
    case hy4 =>
      intro w hSw
      try dsimp only at hSw
      have c6 := cell_rowZ 6 (.int .i64 Y.time) hSw (by rw [HNX.out]; rfl)
      go_simp
      try with_reducible rfl
    try simp only [Act.put, List.getElem_toArray, List.getElem_cons_succ, List.getElem_cons_zero, List.setIfInBounds_toArray, List.set_cons_zero, List.set_cons_succ]
    refine AnyBut.takeS (i := 4) (v := ?v5) rfl (by kernel_rfl) (Nat.le_of_eq (by kernel_rfl)) (by kernel_rfl) (by kernel_rfl) (fun _ _ _ h => h) (HS0'.out) (Or.inl ⟨by kernel_rfl, ?hy5⟩) ?r5
    case hy5 =>
      intro w hSw
      try dsimp only at hSw
      go_simp
      try with_reducible rfl
    try simp only [Act.put, List.getElem_toArray, List.getElem_cons_succ, List.getElem_cons_zero, List.setIfInBounds_toArray, List.set_cons_zero, List.set_cons_succ]
    refine AnyBut.takeS (i := 5) (v := ?v6) rfl (by kernel_rfl) (Nat.le_of_eq (by kernel_rfl)) (by kernel_rfl) (by kernel_rfl) (fun _ _ _ h => h) (HS0'.out) (Or.inl ⟨by kernel_rfl, ?hy6⟩) ?r6
    case hy6 =>
      intro w hSw
      try dsimp only at hSw
      have c7 := cell_rowZ 7 (.int .i64 Y.whole) hSw (by rw [HNX.out]; rfl)
      go_simp
      try with_reducible rfl
    try simp only [Act.put, List.getElem_toArray, List.getElem_cons_succ, List.getElem_cons_zero, List.setIfInBounds_toArray, List.set_cons_zero, List.set_cons_succ]
    refine AnyBut.takeS (i := 6) (v := ?v7) rfl (by kernel_rfl) (Nat.le_of_eq (by kernel_rfl)) (by kernel_rfl) (by kernel_rfl) (fun _ _ _ h => h) (HS0'.out) (Or.inl ⟨by kernel_rfl, ?hy7⟩) ?r7
    case hy7 =>
      intro w hSw
      try dsimp only at hSw
      go_simp
      try with_reducible rfl
    try simp only [Act.put, List.getElem_toArray, List.getElem_cons_succ, List.getElem_cons_zero, List.setIfInBounds_toArray, List.set_cons_zero, List.set_cons_succ]
    refine AnyBut.takeS (i := 7) (v := ?v8) rfl (by kernel_rfl) (Nat.le_of_eq (by kernel_rfl)) (by kernel_rfl) (by kernel_rfl) (fun _ _ _ h => h) (HS0'.out) (Or.inl ⟨by kernel_rfl, ?hy8⟩) ?r8
    case hy8 =>
      intro w hSw
      try dsimp only at hSw
      have c8 := cell_rowZ 8 (.int .u64 Y.re) hSw (by rw [HNX.out]; rfl)
      go_simp
      try with_reducible rfl
    try simp only [Act.put, List.getElem_toArray, List.getElem_cons_succ, List.getElem_cons_zero, List.setIfInBounds_toArray, List.set_cons_zero, List.set_cons_succ]
    refine AnyBut.takeS (i := 8) (v := ?v9) rfl (by kernel_rfl) (Nat.le_of_eq (by kernel_rfl)) (by kernel_rfl) (by kernel_rfl) (fun _ _ _ h => h) (HS0'.out) (Or.inl ⟨by kernel_rfl, ?hy9⟩) ?r9
    case hy9 =>
      intro w hSw
      try dsimp only at hSw
      go_simp
      try with_reducible rfl
    try simp only [Act.put, List.getElem_toArray, List.getElem_cons_succ, List.getElem_cons_zero, List.setIfInBounds_toArray, List.set_cons_zero, List.set_cons_succ]
    refine AnyBut.takeS (i := 9) (v := ?v10) rfl (by kernel_rfl) (Nat.le_of_eq (by kernel_rfl)) (by kernel_rfl) (by kernel_rfl) (fun _ _ _ h => h) (HS0'.out) (Or.inl ⟨by kernel_rfl, ?hy10⟩) ?r10
    case hy10 =>
      intro w hSw
      try dsimp only at hSw
      have c9 := cell_rowZ 9 (.int .u64 Y.im) hSw (by rw [HNX.out]; rfl)
      go_simp
      try with_reducible rfl
    try simp only [Act.put, List.getElem_toArray, List.getElem_cons_succ, List.getElem_cons_zero, List.setIfInBounds_toArray, List.set_cons_zero, List.set_cons_succ]
    refine AnyBut.takeS (i := 10) (v := ?v11) rfl (by kernel_rfl) (Nat.le_of_eq (by kernel_rfl)) (by kernel_rfl) (by kernel_rfl) (fun _ _ _ h => h) (HS0'.out) (Or.inl ⟨by kernel_rfl, ?hy11⟩) ?r11
    case hy11 =>
      intro w hSw
      try dsimp only at hSw
      go_simp
      try with_reducible rfl
    try simp only [Act.put, List.getElem_toArray, List.getElem_cons_succ, List.getElem_cons_zero, List.setIfInBounds_toArray, List.set_cons_zero, List.set_cons_succ]
    refine AnyBut.takeS (i := 11) (v := ?v12) rfl (by kernel_rfl) (Nat.le_of_eq (by kernel_rfl)) (by kernel_rfl) (by kernel_rfl) (fun _ _ _ h => h) (HS0'.out) (Or.inl ⟨by kernel_rfl, ?hy12⟩) ?r12
    case hy12 =>
      intro w hSw
      try dsimp only at hSw
      have c10 := cell_rowZ 10 (.int .i64 Y.h.sc) hSw (by rw [HNX.out]; rfl)
      have c11 := cell_rowZ 11 (.int .u64 (Y.h.ze : Int)) hSw (by rw [HNX.out]; rfl)
      have c12 := cell_rowZ 12 (.int .i64 Y.h.po) hSw (by rw [HNX.out]; rfl)
      have c13 := cell_rowZ 13 (.slice b2 Y.h.pl.length d2) hSw (by rw [HNX.out]; rfl)
      have c14 := cell_rowZ 14 (.int .i64 Y.h.no) hSw (by rw [HNX.out]; rfl)
      have c15 := cell_rowZ 15 (.slice b3 Y.h.nl.length d3) hSw (by rw [HNX.out]; rfl)
      go_simp
      try with_reducible rfl
    try simp only [Act.put, List.getElem_toArray, List.getElem_cons_succ, List.getElem_cons_zero, List.setIfInBounds_toArray, List.set_cons_zero, List.set_cons_succ]
    refine AnyBut.two (i := 12) (j := 14) (by kernel_rfl) rfl rfl (fun K hK => ?_) (fun K hK => ?_)
    · go_simp
      go_wp2_with fail
      refine (HHX.out wD HND.out.new).mono ?_
      rintro e w12 ⟨r2, r3, q2, q3, rfl, hn⟩
      have HH12 := Lib.hid (hn.down HND.out.k)
      have kk := hn.mp.kept
      have HN12 := Lib.hid (HND.out.on kk)
      have HS12 : Hid ((fun w' => w'.heap[g9]? = some (.cells NX 37 (0, 0))) w12) := Lib.hid HN12.out.bo
      clear kk hn
      go_wp2
      refine hK.out _ _ (HS12.out) ?_
      clear hK K
      try simp only [Act.put, List.getElem_toArray, List.getElem_cons_succ, List.getElem_cons_zero, List.setIfInBounds_toArray, List.set_cons_zero, List.set_cons_succ]
      refine AnyBut.takeS (i := 13) (v := ?v13) rfl (by kernel_rfl) (Nat.le_of_eq (by kernel_rfl)) (by kernel_rfl) (by kernel_rfl) (fun _ _ _ h => h) (HS12.out) (Or.inl ⟨by kernel_rfl, ?hy13⟩) ?r13
      case hy13 =>
        intro w hSw
        try dsimp only at hSw
        go_simp
        try with_reducible rfl
      try simp only [Act.put, List.getElem_toArray, List.getElem_cons_succ, List.getElem_cons_zero, List.setIfInBounds_toArray, List.set_cons_zero, List.set_cons_succ]
      refine AnyBut.one (i := 14) (by kernel_rfl) rfl (fun K hK => ?_)
      go_simp
      obtain ⟨g11, hg11⟩ : ∃ g, g = w12.heap.size := ⟨_, rfl⟩
      obtain ⟨w14, hnw⟩ : ∃ w', w' = (w12).alloc (.cells #[.bool false, .int .i64 0, .int .i64 0, .int .i64 0, .int .u64 0, .int .u64 0, .int .i64 0, .int .u64 0, .int .i64 0, .slice none 0 0, .int .i64 0, .slice none 0 0] 32) := ⟨_, rfl⟩
      have kk : Kept (fun _ => False) (w12) w14 := by rw [hnw]; exact (Kept.refl _ _).alloc _
      have HT14 : Hid (w14.heap[g11]? = some (.cells #[.bool false, .int .i64 0, .int .i64 0, .int .i64 0, .int .u64 0, .int .u64 0, .int .i64 0, .int .u64 0, .int .i64 0, .slice none 0 0, .int .i64 0, .slice none 0 0] 32 (0, 0))) := Lib.hid (by rw [hnw, hg11]; exact heap_alloc_new (w12) _)
      have HL11 : Hid (w2.heap.size ≤ g11) := Lib.hid (by rw [hg11]; exact HN12.out.k.size)
      have HN14 := Lib.hid (HN12.out.on kk)
      have HH14 := Lib.hid (HH12.out.on kk)
      have HS14 : Hid ((fun w' => w'.heap[g9]? = some (.cells NX 37 (0, 0))) w14) := Lib.hid HN14.out.bo
      rw [← hg11, ← hnw]
      clear hg11 hnw kk
      refine hK.out _ _ (HS14.out) ?_
      clear hK K
      try simp only [Act.put, List.getElem_toArray, List.getElem_cons_succ, List.getElem_cons_zero, List.setIfInBounds_toArray, List.set_cons_zero, List.set_cons_succ]
      refine AnyBut.one (i := 15) (by kernel_rfl) rfl (fun K hK => ?_)
      refine step_store_to (by rfl) 32 (.tmp 11) (.tmp 62) (by rfl) g11 (stC (stOf Y) (.slice r2 Y.h.pl.length q2) (.slice r3 Y.h.nl.length q3)) (by rfl) (by rfl) 32 #[.bool false, .int .i64 0, .int .i64 0, .int .i64 0, .int .u64 0, .int .u64 0, .int .i64 0, .int .u64 0, .int .i64 0, .slice none 0 0, .int .i64 0, .slice none 0 0] HT14.out state_info rfl (stC_one ⟨rfl, rfl⟩) ?_
      intro w15 hb15 k15
      have HB15 := Lib.hid hb15
      have HN15 := Lib.hid (HN14.out.out' k15 HT14.out (by decide) (by decide) (by decide) HL11.out)
      have HH15 := Lib.hid (HH14.out.set HT14.out (by decide) HL11.out k15)
      have HS15 : Hid ((fun w' => w'.heap[g9]? = some (.cells NX 37 (0, 0))) w15) := Lib.hid HN15.out.bo
      clear hb15 k15
      refine hK.out _ _ (HS15.out) ?_
      clear hK K
      try simp only [Act.put, List.getElem_toArray, List.getElem_cons_succ, List.getElem_cons_zero]
      refine AnyBut.done (by kernel_rfl) ?_
      go_wp2
      have HKE := Lib.hid ((Kept.refl (fun _ => False) w15).drew)
      have HNJ := Lib.hid (HN15.out.on HKE.out)
      have HHJ := Lib.hid (HH15.out.on HKE.out)
      have HS0 : Hid ((fun w' => w'.heap[g11]? = some (.cells (stC (stOf Y) (.slice r2 Y.h.pl.length q2) (.slice r3 Y.h.nl.length q3)) 32 (0, 0)) ∧ w'.heap[g9]? = some (.cells NX 37 (0, 0))) (w15.drew)) := Lib.hid ⟨HKE.out.same HB15.out (fun x => x), HNJ.out.bo⟩
      go_upto_region 13 with fail
      refine AnyBut.start (S := fun w' => w'.heap[g11]? = some (.cells (stC (stOf Y) (.slice r2 Y.h.pl.length q2) (.slice r3 Y.h.nl.length q3)) 32 (0, 0)) ∧ w'.heap[g9]? = some (.cells NX 37 (0, 0))) (k := 5) (by kernel_rfl) ?_
      refine AnyBut.takeS (i := 0) (v := ?v14) rfl (by kernel_rfl) (Nat.le_of_eq (by kernel_rfl)) (by kernel_rfl) (by kernel_rfl) (fun _ _ _ h => h) (HS0.out) (Or.inl ⟨by kernel_rfl, ?hy14⟩) ?r14
      case hy14 =>
        intro w hSw
        try dsimp only at hSw
        refine exec_load_row 32 (.tmp 11) ?_ g11 ?_ 32 _ (0, 0) _ hSw.1 Try.underlying32 rfl state_info
        · rfl
        · rfl
      try simp only [Act.put, List.getElem_toArray, List.getElem_cons_zero, List.setIfInBounds_toArray, List.set_cons_zero, List.set_cons_succ]
      refine AnyBut.takeS (i := 1) (v := ?v15) rfl (by kernel_rfl) (Nat.le_of_eq (by kernel_rfl)) (by kernel_rfl) (by kernel_rfl) (fun _ _ _ h => h) (HS0.out) (Or.inl ⟨by kernel_rfl, ?hy15⟩) ?r15
      case hy15 =>
        intro w hSw
        try dsimp only at hSw
        refine exec_load_row 37 (.tmp 9) ?_ g9 ?_ 37 _ (0, 0) _ hSw.2 Try.underlying37 rfl HIN.out.1
        · rfl
        · rfl
      try simp only [Act.put, List.getElem_toArray, List.getElem_cons_succ, List.getElem_cons_zero, List.setIfInBounds_toArray, List.set_cons_zero, List.set_cons_succ]
      refine AnyBut.one (i := 2) (by kernel_rfl) rfl (fun K hK => ?_)
      refine step_store_row (by rfl) 32 (.tmp 6) (.tmp 63) (by rfl) (q + 1 + 1) (stC (stOf Y) (.slice r2 Y.h.pl.length q2) (.slice r3 Y.h.nl.length q3)) (by rfl) (by rfl) 32 #[.bool false, .int .i64 0, .int .i64 0, .int .i64 0, .int .u64 0, .int .u64 0, .int .i64 0, .int .u64 0, .int .i64 0, .slice none 0 0, .int .i64 0, .slice none 0 0] (HBX.out (w15.drew) HNJ.out.k).2.2.1 state_info rfl (stC_one ⟨rfl, rfl⟩) ?_
      have HKx : Hid (Kept (fun i => i = q + 1 + 1) (w15.drew) ((w15.drew).setRow (q + 1 + 1) (stC (stOf Y) (.slice r2 Y.h.pl.length q2) (.slice r3 Y.h.nl.length q3)))) := Lib.hid (setRow_keptW _ _ _)
      have HBx : Hid (((w15.drew).setRow (q + 1 + 1) (stC (stOf Y) (.slice r2 Y.h.pl.length q2) (.slice r3 Y.h.nl.length q3))).heap[q + 1 + 1]? = some (.cells (stC (stOf Y) (.slice r2 Y.h.pl.length q2) (.slice r3 Y.h.nl.length q3)) 32 (0, 0)) ∧ ((w15.drew).setRow (q + 1 + 1) (stC (stOf Y) (.slice r2 Y.h.pl.length q2) (.slice r3 Y.h.nl.length q3))).heap[q + 1 + 1 + 1]? = some (.cells #[.string { data := #[] }, .slice none 0 0, .int .i64 0, .int .i64 0, .bool false, .int .i64 0, .int .i64 0, .int .i64 0, .int .u64 0, .int .u64 0, .int .i64 0, .int .u64 0, .int .i64 0, .slice none 0 0, .int .i64 0, .slice none 0 0, .int .i64 0] 37 (0, 0))) := Lib.hid ⟨setRow_heap _ _ _ _ _ _ (HBX.out (w15.drew) HNJ.out.k).2.2.1, HKx.out.same (HBX.out (w15.drew) HNJ.out.k).2.2.2 (by omega)⟩
      have HSx : Hid ((fun w' => w'.heap[g11]? = some (.cells (stC (stOf Y) (.slice r2 Y.h.pl.length q2) (.slice r3 Y.h.nl.length q3)) 32 (0, 0)) ∧ w'.heap[g9]? = some (.cells NX 37 (0, 0))) ((w15.drew).setRow (q + 1 + 1) (stC (stOf Y) (.slice r2 Y.h.pl.length q2) (.slice r3 Y.h.nl.length q3)))) := Lib.hid ⟨HKx.out.same HS0.out.1 (by have := (Array.getElem?_eq_some_iff.1 (HBX.out w2 (Kept.refl _ _)).2.2.2).1; have := HNJ.out.lt; have := HL11.out; omega), HKx.out.same HS0.out.2 (by have := (Array.getElem?_eq_some_iff.1 (HBX.out w2 (Kept.refl _ _)).2.2.2).1; have := HNJ.out.lt; have := HL11.out; omega)⟩
      refine hK.out _ _ (HSx.out) ?_
      clear hK K
      try simp only [Act.put, List.getElem_toArray, List.getElem_cons_succ, List.getElem_cons_zero]
      refine AnyBut.one (i := 3) (by kernel_rfl) rfl (fun K hK => ?_)
      refine step_store_row (by rfl) 37 (.tmp 7) (.tmp 64) (by rfl) (q + 1 + 1 + 1) NX (by rfl) (by rfl) 37 #[.string { data := #[] }, .slice none 0 0, .int .i64 0, .int .i64 0, .bool false, .int .i64 0, .int .i64 0, .int .i64 0, .int .u64 0, .int .u64 0, .int .i64 0, .int .u64 0, .int .i64 0, .slice none 0 0, .int .i64 0, .slice none 0 0, .int .i64 0] HBx.out.2 HIN.out.1 (by rw [HIN.out.2.1]; rfl) HIN.out.2.2 ?_
      have HKy : Hid (Kept (fun i => i = q + 1 + 1 + 1) ((w15.drew).setRow (q + 1 + 1) (stC (stOf Y) (.slice r2 Y.h.pl.length q2) (.slice r3 Y.h.nl.length q3))) (((w15.drew).setRow (q + 1 + 1) (stC (stOf Y) (.slice r2 Y.h.pl.length q2) (.slice r3 Y.h.nl.length q3))).setRow (q + 1 + 1 + 1) NX)) := Lib.hid (setRow_keptW _ _ _)
      have HBy : Hid ((((w15.drew).setRow (q + 1 + 1) (stC (stOf Y) (.slice r2 Y.h.pl.length q2) (.slice r3 Y.h.nl.length q3))).setRow (q + 1 + 1 + 1) NX).heap[q + 1 + 1]? = some (.cells (stC (stOf Y) (.slice r2 Y.h.pl.length q2) (.slice r3 Y.h.nl.length q3)) 32 (0, 0)) ∧ (((w15.drew).setRow (q + 1 + 1) (stC (stOf Y) (.slice r2 Y.h.pl.length q2) (.slice r3 Y.h.nl.length q3))).setRow (q + 1 + 1 + 1) NX).heap[q + 1 + 1 + 1]? = some (.cells NX 37 (0, 0))) := Lib.hid ⟨HKy.out.same HBx.out.1 (by omega), setRow_heap _ _ _ _ _ _ HBx.out.2⟩
      have HSy : Hid ((fun w' => w'.heap[g11]? = some (.cells (stC (stOf Y) (.slice r2 Y.h.pl.length q2) (.slice r3 Y.h.nl.length q3)) 32 (0, 0)) ∧ w'.heap[g9]? = some (.cells NX 37 (0, 0))) (((w15.drew).setRow (q + 1 + 1) (stC (stOf Y) (.slice r2 Y.h.pl.length q2) (.slice r3 Y.h.nl.length q3))).setRow (q + 1 + 1 + 1) NX)) := Lib.hid ⟨HKy.out.same HSx.out.1 (by have := (Array.getElem?_eq_some_iff.1 (HBX.out w2 (Kept.refl _ _)).2.2.2).1; have := HNJ.out.lt; have := HL11.out; omega), HKy.out.same HSx.out.2 (by have := (Array.getElem?_eq_some_iff.1 (HBX.out w2 (Kept.refl _ _)).2.2.2).1; have := HNJ.out.lt; have := HL11.out; omega)⟩
      refine hK.out _ _ (HSy.out) ?_
      clear hK K
      try simp only [Act.put, List.getElem_toArray, List.getElem_cons_succ, List.getElem_cons_zero]
      refine AnyBut.takeS (i := 4) (v := ?v16) rfl (by kernel_rfl) (Nat.le_of_eq (by kernel_rfl)) (by kernel_rfl) (by kernel_rfl) (fun _ _ _ h => h) (HSy.out) (Or.inl ⟨by kernel_rfl, ?hy16⟩) ?r16
      case hy16 =>
        intro w hSw
        try dsimp only at hSw
        go_simp
        try with_reducible rfl
      try simp only [Act.put, List.getElem_toArray, List.getElem_cons_succ, List.getElem_cons_zero, List.setIfInBounds_toArray, List.set_cons_zero, List.set_cons_succ]
      refine AnyBut.done (by kernel_rfl) ?_
      go_wp2
      refine bodyPost_ret (results_cct Try.results23 _ _ (q + 1 + 1) (q + 1 + 1 + 1) 32 37 _ _ (0, 0) (0, 0) _ _ rfl HBy.out.1 Try.underlying32 rfl state_info rfl HBy.out.2 Try.underlying37 rfl HIN.out.1) rfl ?_
      have n0 := HNJ.out.new.down HK02.out
      have n1 := n0.set (HBX.out (w15.drew) HNJ.out.k).2.2.1 (by decide) (by decide) (by have := HGE.out; omega) HKx.out
      have hlast := n1.set HBx.out.2 (by decide) (by decide) (by have := HGE.out; omega) HKy.out
      have h0 := HHJ.out.down HK02.out
      have h1 := h0.set (HBX.out (w15.drew) HNJ.out.k).2.2.1 (by decide) (by have := HGE.out; omega) HKx.out
      have hlastH := h1.set HBx.out.2 (by decide) (by have := HGE.out; omega) HKy.out
      rw [HOW2.out]
      exact ⟨_, _, _, rfl, ⟨r2, r3, q2, q3, rfl, rfl, hlastH⟩, ⟨b1, b2, b3, d1, d2, d3, by rw [HNX.out]; rfl, hlast⟩⟩
    · go_simp
      obtain ⟨g11, hg11⟩ : ∃ g, g = wD.heap.size := ⟨_, rfl⟩
      obtain ⟨w14, hnw⟩ : ∃ w', w' = (wD).alloc (.cells #[.bool false, .int .i64 0, .int .i64 0, .int .i64 0, .int .u64 0, .int .u64 0, .int .i64 0, .int .u64 0, .int .i64 0, .slice none 0 0, .int .i64 0, .slice none 0 0] 32) := ⟨_, rfl⟩
      have kk : Kept (fun _ => False) (wD) w14 := by rw [hnw]; exact (Kept.refl _ _).alloc _
      have HT14 : Hid (w14.heap[g11]? = some (.cells #[.bool false, .int .i64 0, .int .i64 0, .int .i64 0, .int .u64 0, .int .u64 0, .int .i64 0, .int .u64 0, .int .i64 0, .slice none 0 0, .int .i64 0, .slice none 0 0] 32 (0, 0))) := Lib.hid (by rw [hnw, hg11]; exact heap_alloc_new (wD) _)
      have HL11 : Hid (w2.heap.size ≤ g11) := Lib.hid (by rw [hg11]; exact HND.out.k.size)
      have HN14 := Lib.hid (HND.out.on kk)
      have HS14 : Hid ((fun w' => w'.heap[g9]? = some (.cells NX 37 (0, 0))) w14) := Lib.hid HN14.out.bo
      rw [← hg11, ← hnw]
      clear hg11 hnw kk
      refine hK.out _ _ (HS14.out) ?_
      clear hK K
      try simp only [Act.put, List.getElem_toArray, List.getElem_cons_succ, List.getElem_cons_zero, List.setIfInBounds_toArray, List.set_cons_zero, List.set_cons_succ]
      refine AnyBut.one (i := 12) (by kernel_rfl) rfl (fun K hK => ?_)
      go_simp
      go_wp2_with fail
      refine (HHX.out w14 HN14.out.new).mono ?_
      rintro e w12 ⟨r2, r3, q2, q3, rfl, hn⟩
      have HH12 := Lib.hid (hn.down HN14.out.k)
      have kk := hn.mp.kept
      have HN12 := Lib.hid (HN14.out.on kk)
      have HT12 := Lib.hid (kk.same HT14.out (fun x => x))
      have HS12 : Hid ((fun w' => w'.heap[g9]? = some (.cells NX 37 (0, 0))) w12) := Lib.hid HN12.out.bo
      clear kk hn
      go_wp2
      refine hK.out _ _ (HS12.out) ?_
      clear hK K
      try simp only [Act.put, List.getElem_toArray, List.getElem_cons_succ, List.getElem_cons_zero, List.setIfInBounds_toArray, List.set_cons_zero, List.set_cons_succ]
      refine AnyBut.takeS (i := 13) (v := ?v17) rfl (by kernel_rfl) (Nat.le_of_eq (by kernel_rfl)) (by kernel_rfl) (by kernel_rfl) (fun _ _ _ h => h) (HS12.out) (Or.inl ⟨by kernel_rfl, ?hy17⟩) ?r17
      case hy17 =>
        intro w hSw
        try dsimp only at hSw
        go_simp
        try with_reducible rfl
      try simp only [Act.put, List.getElem_toArray, List.getElem_cons_succ, List.getElem_cons_zero, List.setIfInBounds_toArray, List.set_cons_zero, List.set_cons_succ]
      refine AnyBut.one (i := 15) (by kernel_rfl) rfl (fun K hK => ?_)
      refine step_store_to (by rfl) 32 (.tmp 11) (.tmp 62) (by rfl) g11 (stC (stOf Y) (.slice r2 Y.h.pl.length q2) (.slice r3 Y.h.nl.length q3)) (by rfl) (by rfl) 32 #[.bool false, .int .i64 0, .int .i64 0, .int .i64 0, .int .u64 0, .int .u64 0, .int .i64 0, .int .u64 0, .int .i64 0, .slice none 0 0, .int .i64 0, .slice none 0 0] HT12.out state_info rfl (stC_one ⟨rfl, rfl⟩) ?_
      intro w15 hb15 k15
      have HB15 := Lib.hid hb15
      have HN15 := Lib.hid (HN12.out.out' k15 HT12.out (by decide) (by decide) (by decide) HL11.out)
      have HH15 := Lib.hid (HH12.out.set HT12.out (by decide) HL11.out k15)
      have HS15 : Hid ((fun w' => w'.heap[g9]? = some (.cells NX 37 (0, 0))) w15) := Lib.hid HN15.out.bo
      clear hb15 k15
      refine hK.out _ _ (HS15.out) ?_
      clear hK K
      try simp only [Act.put, List.getElem_toArray, List.getElem_cons_succ, List.getElem_cons_zero]
      refine AnyBut.done (by kernel_rfl) ?_
      go_wp2
      have HKE := Lib.hid ((Kept.refl (fun _ => False) w15).drew)
      have HNJ := Lib.hid (HN15.out.on HKE.out)
      have HHJ := Lib.hid (HH15.out.on HKE.out)
      have HS0 : Hid ((fun w' => w'.heap[g11]? = some (.cells (stC (stOf Y) (.slice r2 Y.h.pl.length q2) (.slice r3 Y.h.nl.length q3)) 32 (0, 0)) ∧ w'.heap[g9]? = some (.cells NX 37 (0, 0))) (w15.drew)) := Lib.hid ⟨HKE.out.same HB15.out (fun x => x), HNJ.out.bo⟩
      go_upto_region 13 with fail
      refine AnyBut.start (S := fun w' => w'.heap[g11]? = some (.cells (stC (stOf Y) (.slice r2 Y.h.pl.length q2) (.slice r3 Y.h.nl.length q3)) 32 (0, 0)) ∧ w'.heap[g9]? = some (.cells NX 37 (0, 0))) (k := 5) (by kernel_rfl) ?_
      refine AnyBut.takeS (i := 0) (v := ?v18) rfl (by kernel_rfl) (Nat.le_of_eq (by kernel_rfl)) (by kernel_rfl) (by kernel_rfl) (fun _ _ _ h => h) (HS0.out) (Or.inl ⟨by kernel_rfl, ?hy18⟩) ?r18
      case hy18 =>
        intro w hSw
        try dsimp only at hSw
        refine exec_load_row 32 (.tmp 11) ?_ g11 ?_ 32 _ (0, 0) _ hSw.1 Try.underlying32 rfl state_info
        · rfl
        · rfl
      try simp only [Act.put, List.getElem_toArray, List.getElem_cons_zero, List.setIfInBounds_toArray, List.set_cons_zero, List.set_cons_succ]
      refine AnyBut.takeS (i := 1) (v := ?v19) rfl (by kernel_rfl) (Nat.le_of_eq (by kernel_rfl)) (by kernel_rfl) (by kernel_rfl) (fun _ _ _ h => h) (HS0.out) (Or.inl ⟨by kernel_rfl, ?hy19⟩) ?r19
      case hy19 =>
        intro w hSw
        try dsimp only at hSw
        refine exec_load_row 37 (.tmp 9) ?_ g9 ?_ 37 _ (0, 0) _ hSw.2 Try.underlying37 rfl HIN.out.1
        · rfl
        · rfl
      try simp only [Act.put, List.getElem_toArray, List.getElem_cons_succ, List.getElem_cons_zero, List.setIfInBounds_toArray, List.set_cons_zero, List.set_cons_succ]
      refine AnyBut.one (i := 2) (by kernel_rfl) rfl (fun K hK => ?_)
      refine step_store_row (by rfl) 32 (.tmp 6) (.tmp 63) (by rfl) (q + 1 + 1) (stC (stOf Y) (.slice r2 Y.h.pl.length q2) (.slice r3 Y.h.nl.length q3)) (by rfl) (by rfl) 32 #[.bool false, .int .i64 0, .int .i64 0, .int .i64 0, .int .u64 0, .int .u64 0, .int .i64 0, .int .u64 0, .int .i64 0, .slice none 0 0, .int .i64 0, .slice none 0 0] (HBX.out (w15.drew) HNJ.out.k).2.2.1 state_info rfl (stC_one ⟨rfl, rfl⟩) ?_
      have HKx : Hid (Kept (fun i => i = q + 1 + 1) (w15.drew) ((w15.drew).setRow (q + 1 + 1) (stC (stOf Y) (.slice r2 Y.h.pl.length q2) (.slice r3 Y.h.nl.length q3)))) := Lib.hid (setRow_keptW _ _ _)
      have HBx : Hid (((w15.drew).setRow (q + 1 + 1) (stC (stOf Y) (.slice r2 Y.h.pl.length q2) (.slice r3 Y.h.nl.length q3))).heap[q + 1 + 1]? = some (.cells (stC (stOf Y) (.slice r2 Y.h.pl.length q2) (.slice r3 Y.h.nl.length q3)) 32 (0, 0)) ∧ ((w15.drew).setRow (q + 1 + 1) (stC (stOf Y) (.slice r2 Y.h.pl.length q2) (.slice r3 Y.h.nl.length q3))).heap[q + 1 + 1 + 1]? = some (.cells #[.string { data := #[] }, .slice none 0 0, .int .i64 0, .int .i64 0, .bool false, .int .i64 0, .int .i64 0, .int .i64 0, .int .u64 0, .int .u64 0, .int .i64 0, .int .u64 0, .int .i64 0, .slice none 0 0, .int .i64 0, .slice none 0 0, .int .i64 0] 37 (0, 0))) := Lib.hid ⟨setRow_heap _ _ _ _ _ _ (HBX.out (w15.drew) HNJ.out.k).2.2.1, HKx.out.same (HBX.out (w15.drew) HNJ.out.k).2.2.2 (by omega)⟩
      have HSx : Hid ((fun w' => w'.heap[g11]? = some (.cells (stC (stOf Y) (.slice r2 Y.h.pl.length q2) (.slice r3 Y.h.nl.length q3)) 32 (0, 0)) ∧ w'.heap[g9]? = some (.cells NX 37 (0, 0))) ((w15.drew).setRow (q + 1 + 1) (stC (stOf Y) (.slice r2 Y.h.pl.length q2) (.slice r3 Y.h.nl.length q3)))) := Lib.hid ⟨HKx.out.same HS0.out.1 (by have := (Array.getElem?_eq_some_iff.1 (HBX.out w2 (Kept.refl _ _)).2.2.2).1; have := HNJ.out.lt; have := HL11.out; omega), HKx.out.same HS0.out.2 (by have := (Array.getElem?_eq_some_iff.1 (HBX.out w2 (Kept.refl _ _)).2.2.2).1; have := HNJ.out.lt; have := HL11.out; omega)⟩
      refine hK.out _ _ (HSx.out) ?_
      clear hK K
      try simp only [Act.put, List.getElem_toArray, List.getElem_cons_succ, List.getElem_cons_zero]
      refine AnyBut.one (i := 3) (by kernel_rfl) rfl (fun K hK => ?_)
      refine step_store_row (by rfl) 37 (.tmp 7) (.tmp 64) (by rfl) (q + 1 + 1 + 1) NX (by rfl) (by rfl) 37 #[.string { data := #[] }, .slice none 0 0, .int .i64 0, .int .i64 0, .bool false, .int .i64 0, .int .i64 0, .int .i64 0, .int .u64 0, .int .u64 0, .int .i64 0, .int .u64 0, .int .i64 0, .slice none 0 0, .int .i64 0, .slice none 0 0, .int .i64 0] HBx.out.2 HIN.out.1 (by rw [HIN.out.2.1]; rfl) HIN.out.2.2 ?_
      have HKy : Hid (Kept (fun i => i = q + 1 + 1 + 1) ((w15.drew).setRow (q + 1 + 1) (stC (stOf Y) (.slice r2 Y.h.pl.length q2) (.slice r3 Y.h.nl.length q3))) (((w15.drew).setRow (q + 1 + 1) (stC (stOf Y) (.slice r2 Y.h.pl.length q2) (.slice r3 Y.h.nl.length q3))).setRow (q + 1 + 1 + 1) NX)) := Lib.hid (setRow_keptW _ _ _)
      have HBy : Hid ((((w15.drew).setRow (q + 1 + 1) (stC (stOf Y) (.slice r2 Y.h.pl.length q2) (.slice r3 Y.h.nl.length q3))).setRow (q + 1 + 1 + 1) NX).heap[q + 1 + 1]? = some (.cells (stC (stOf Y) (.slice r2 Y.h.pl.length q2) (.slice r3 Y.h.nl.length q3)) 32 (0, 0)) ∧ (((w15.drew).setRow (q + 1 + 1) (stC (stOf Y) (.slice r2 Y.h.pl.length q2) (.slice r3 Y.h.nl.length q3))).setRow (q + 1 + 1 + 1) NX).heap[q + 1 + 1 + 1]? = some (.cells NX 37 (0, 0))) := Lib.hid ⟨HKy.out.same HBx.out.1 (by omega), setRow_heap _ _ _ _ _ _ HBx.out.2⟩
      have HSy : Hid ((fun w' => w'.heap[g11]? = some (.cells (stC (stOf Y) (.slice r2 Y.h.pl.length q2) (.slice r3 Y.h.nl.length q3)) 32 (0, 0)) ∧ w'.heap[g9]? = some (.cells NX 37 (0, 0))) (((w15.drew).setRow (q + 1 + 1) (stC (stOf Y) (.slice r2 Y.h.pl.length q2) (.slice r3 Y.h.nl.length q3))).setRow (q + 1 + 1 + 1) NX)) := Lib.hid ⟨HKy.out.same HSx.out.1 (by have := (Array.getElem?_eq_some_iff.1 (HBX.out w2 (Kept.refl _ _)).2.2.2).1; have := HNJ.out.lt; have := HL11.out; omega), HKy.out.same HSx.out.2 (by have := (Array.getElem?_eq_some_iff.1 (HBX.out w2 (Kept.refl _ _)).2.2.2).1; have := HNJ.out.lt; have := HL11.out; omega)⟩
      refine hK.out _ _ (HSy.out) ?_
      clear hK K
      try simp only [Act.put, List.getElem_toArray, List.getElem_cons_succ, List.getElem_cons_zero]
      refine AnyBut.takeS (i := 4) (v := ?v20) rfl (by kernel_rfl) (Nat.le_of_eq (by kernel_rfl)) (by kernel_rfl) (by kernel_rfl) (fun _ _ _ h => h) (HSy.out) (Or.inl ⟨by kernel_rfl, ?hy20⟩) ?r20
      case hy20 =>
        intro w hSw
        try dsimp only at hSw
        go_simp
        try with_reducible rfl
      try simp only [Act.put, List.getElem_toArray, List.getElem_cons_succ, List.getElem_cons_zero, List.setIfInBounds_toArray, List.set_cons_zero, List.set_cons_succ]
      refine AnyBut.done (by kernel_rfl) ?_
      go_wp2
      refine bodyPost_ret (results_cct Try.results23 _ _ (q + 1 + 1) (q + 1 + 1 + 1) 32 37 _ _ (0, 0) (0, 0) _ _ rfl HBy.out.1 Try.underlying32 rfl state_info rfl HBy.out.2 Try.underlying37 rfl HIN.out.1) rfl ?_
      have n0 := HNJ.out.new.down HK02.out
      have n1 := n0.set (HBX.out (w15.drew) HNJ.out.k).2.2.1 (by decide) (by decide) (by have := HGE.out; omega) HKx.out
      have hlast := n1.set HBx.out.2 (by decide) (by decide) (by have := HGE.out; omega) HKy.out
      have h0 := HHJ.out.down HK02.out
      have h1 := h0.set (HBX.out (w15.drew) HNJ.out.k).2.2.1 (by decide) (by have := HGE.out; omega) HKx.out
      have hlastH := h1.set HBx.out.2 (by decide) (by have := HGE.out; omega) HKy.out
      rw [HOW2.out]
      exact ⟨_, _, _, rfl, ⟨r2, r3, q2, q3, rfl, rfl, hlastH⟩, ⟨b1, b2, b3, d1, d2, d3, by rw [HNX.out]; rfl, hlast⟩⟩
  | true =>
    have HSM := Lib.hid hsm
    rw [if_pos (show true = true from rfl)]
    by_cases hl : lateC s f = 0
    case neg =>
      rw [if_neg hl, if_neg hl]
      have q2 : (lateC s f != 0) = true := by rw [bne_iff_ne]; exact hl
      go_enter Try.func23, Try.ntmps23
      go_upto_region 1 with fail
      rw [← HW2.out.1, ← HW2.out.2]
      go_wp2_with (first
        | (refine wpList_load_row rfl 37 (.tmp 4) rfl (q + 1) rfl 37 _ (0, 0) _ HB.out.2.1 Try.underlying37 rfl HIX.out ?_)
        | fail)
      refine (HTK.out w2 (Kept.refl _ _)).mono ?_
      rintro e w3 ⟨v, rfl, g3⟩
      have HG3 := Lib.hid g3
      obtain ⟨CY, rfl, hi, hs, h1⟩ := g3.cells
      have HIY := Lib.hid hi
      have HSY := Lib.hid (And.intro hs h1)
      have HK3 := Lib.hid g3.kept
      clear g3 hi hs h1
      obtain ⟨g9, hg9⟩ : ∃ g, g = w3.heap.size := ⟨_, rfl⟩
      have HG9 := Lib.hid hg9
      clear hg9
      go_upto_region 2 with (refine wpList_store_box rfl 37 (.tmp 9) _ rfl w3 _ CY 37 rfl rfl rfl HIY.out (by rw [HSY.out.1]; rfl) HSY.out.2 ?_; intro w4 hb4 k4; have HK4 := Lib.hid (HK3.out.trans k4); have HN4 : Hid (∃ a1 a2 a3 c1 c2 c3, CY = pntC f (.slice a1 f.L.length c1) (.slice a2 f.h.pl.length c2) (.slice a3 f.h.nl.length c3) ∧ NC w2 w4 g9 CY f a1 a2 a3 c1 c2 c3) := Lib.hid (by obtain ⟨a1, a2, a3, c1, c2, c3, e, n⟩ := HG3.out; injection e with e; exact ⟨a1, a2, a3, c1, c2, c3, e, ⟨HK3.out.trans k4, by rw [HG9.out]; exact hb4, by rw [HG9.out]; exact HK3.out.size, n.on k4⟩⟩); have s0 : w4.cell? ⟨q, 0, none⟩ = some (.bool true) := cell_rowZ 0 _ (HBX.out w4 HK4.out).1 (by rw [HCS.out, ← hsm]; rfl); clear hb4 k4)
      rw [← HG9.out]
      obtain ⟨a1, a2, a3, c1, c2, c3, hcy, n4⟩ := HN4.out
      have HCY := Lib.hid hcy
      have HNA := Lib.hid n4
      clear hcy n4
      clear hsm hl
      go_wp2_with (first
        | (refine wpList_load_row rfl 32 (.tmp 3) rfl q rfl 32 _ (0, 0) _ (HBX.out w4 HK4.out).1 Try.underlying32 rfl HIS.out ?_)
        | (refine wpList_load_row rfl 37 (.tmp 9) rfl g9 rfl 37 _ (0, 0) _ HNA.out.bo Try.underlying37 rfl HIY.out ?_)
        | fail)
      rw [HCY.out]
      refine (HLT.out _ _ _ w4).mono ?_
      rintro e w5 ⟨rfl, k5⟩
      have HK5 := Lib.hid (HK4.out.trans k5)
      have HNAA := Lib.hid (HNA.out.on k5)
      clear k5
      rw [← HCY.out]
      go_wp2_with (first
        | (refine wpList_store_row rfl 32 (.tmp 6) _ rfl (q + 1 + 1) #[.bool false, .int .i64 0, .int .i64 0, .int .i64 0, .int .u64 0, .int .u64 0, .int .i64 0, .int .u64 0, .int .i64 0, .slice none 0 0, .int .i64 0, .slice none 0 0] rfl rfl 32 _ (HBX.out w5 HK5.out).2.2.1 state_info rfl (stC_one (s := zeroSt) ⟨rfl, rfl⟩) ?_)
        | (refine wpList_store_row rfl 37 (.tmp 7) _ rfl (q + 1 + 1 + 1) #[.string { data := #[] }, .slice none 0 0, .int .i64 0, .int .i64 0, .bool false, .int .i64 0, .int .i64 0, .int .i64 0, .int .u64 0, .int .u64 0, .int .i64 0, .int .u64 0, .int .i64 0, .slice none 0 0, .int .i64 0, .slice none 0 0, .int .i64 0] rfl rfl 37 _ ((setRow_keptW _ _ _).same (HBX.out w5 HK5.out).2.2.2 (by omega)) point_info rfl (pntC_one' (x := zeroPt) (ones_slices _ _ _ _ _ _ _ _ _)) ?_)
        | fail)
      have kz1 : Kept (fun i => i = q + 1 + 1) w5 (w5.setRow (q + 1 + 1) #[.bool false, .int .i64 0, .int .i64 0, .int .i64 0, .int .u64 0, .int .u64 0, .int .i64 0, .int .u64 0, .int .i64 0, .slice none 0 0, .int .i64 0, .slice none 0 0]) := setRow_keptW _ _ _
      have kz2 : Kept (fun i => i = q + 1 + 1 + 1) (w5.setRow (q + 1 + 1) #[.bool false, .int .i64 0, .int .i64 0, .int .i64 0, .int .u64 0, .int .u64 0, .int .i64 0, .int .u64 0, .int .i64 0, .slice none 0 0, .int .i64 0, .slice none 0 0]) ((w5.setRow (q + 1 + 1) #[.bool false, .int .i64 0, .int .i64 0, .int .i64 0, .int .u64 0, .int .u64 0, .int .i64 0, .int .u64 0, .int .i64 0, .slice none 0 0, .int .i64 0, .slice none 0 0]).setRow (q + 1 + 1 + 1) #[.string { data := #[] }, .slice none 0 0, .int .i64 0, .int .i64 0, .bool false, .int .i64 0, .int .i64 0, .int .i64 0, .int .u64 0, .int .u64 0, .int .i64 0, .int .u64 0, .int .i64 0, .slice none 0 0, .int .i64 0, .slice none 0 0, .int .i64 0]) := setRow_keptW _ _ _
      refine bodyPost_ret (results_cct Try.results23 _ _ (q + 1 + 1) (q + 1 + 1 + 1) 32 37 _ _ (0, 0) (0, 0) _ _ rfl (kz2.same (setRow_heap _ _ _ _ _ _ (HBX.out w5 HK5.out).2.2.1) (by omega)) Try.underlying32 rfl state_info rfl (setRow_heap _ _ _ _ _ _ (kz1.same (HBX.out w5 HK5.out).2.2.2 (by omega))) Try.underlying37 rfl point_info) rfl ?_
      have kz3 := ((HK02.out.trans HK5.out).newer kz1 (fun i e => by have := HGE.out; omega)).newer kz2 (fun i e => by have := HGE.out; omega)
      exact ⟨.slice none 0 0, .slice none 0 0, _, rfl, ⟨none, none, 0, 0, rfl, rfl, HN.nil kz3⟩, GotP.zero kz3⟩
    rw [hl, if_pos (show (0 : Int) = 0 from rfl), if_pos (show (0 : Int) = 0 from rfl)]
    go_enter Try.func23, Try.ntmps23
    go_upto_region 1 with fail
    rw [← HW2.out.1, ← HW2.out.2]
    go_wp2_with (first
      | (refine wpList_load_row rfl 37 (.tmp 4) rfl (q + 1) rfl 37 _ (0, 0) _ HB.out.2.1 Try.underlying37 rfl HIX.out ?_)
      | fail)
    refine (HTK.out w2 (Kept.refl _ _)).mono ?_
    rintro e w3 ⟨v, rfl, g3⟩
    have HG3 := Lib.hid g3
    obtain ⟨CY, rfl, hi, hs, h1⟩ := g3.cells
    have HIY := Lib.hid hi
    have HSY := Lib.hid (And.intro hs h1)
    have HK3 := Lib.hid g3.kept
    clear g3 hi hs h1
    obtain ⟨g9, hg9⟩ : ∃ g, g = w3.heap.size := ⟨_, rfl⟩
    have HG9 := Lib.hid hg9
    clear hg9
    go_upto_region 2 with (refine wpList_store_box rfl 37 (.tmp 9) _ rfl w3 _ CY 37 rfl rfl rfl HIY.out (by rw [HSY.out.1]; rfl) HSY.out.2 ?_; intro w4 hb4 k4; have HK4 := Lib.hid (HK3.out.trans k4); have HN4 : Hid (∃ a1 a2 a3 c1 c2 c3, CY = pntC f (.slice a1 f.L.length c1) (.slice a2 f.h.pl.length c2) (.slice a3 f.h.nl.length c3) ∧ NC w2 w4 g9 CY f a1 a2 a3 c1 c2 c3) := Lib.hid (by obtain ⟨a1, a2, a3, c1, c2, c3, e, n⟩ := HG3.out; injection e with e; exact ⟨a1, a2, a3, c1, c2, c3, e, ⟨HK3.out.trans k4, by rw [HG9.out]; exact hb4, by rw [HG9.out]; exact HK3.out.size, n.on k4⟩⟩); have s0 : w4.cell? ⟨q, 0, none⟩ = some (.bool true) := cell_rowZ 0 _ (HBX.out w4 HK4.out).1 (by rw [HCS.out, ← hsm]; rfl); clear hb4 k4)
    rw [← HG9.out]
    obtain ⟨a1, a2, a3, c1, c2, c3, hcy, n4⟩ := HN4.out
    have HCY := Lib.hid hcy
    have HNA := Lib.hid n4
    clear hcy n4
    clear hsm
    go_wp2_with (first
      | (refine wpList_load_row rfl 32 (.tmp 3) rfl q rfl 32 _ (0, 0) _ (HBX.out w4 HK4.out).1 Try.underlying32 rfl HIS.out ?_)
      | (refine wpList_load_row rfl 37 (.tmp 9) rfl g9 rfl 37 _ (0, 0) _ HNA.out.bo Try.underlying37 rfl HIY.out ?_)
      | fail)
    rw [HCY.out]
    refine (HLT.out _ _ _ w4).mono ?_
    rintro e w5 ⟨rfl, k5⟩
    have HK5 := Lib.hid (HK4.out.trans k5)
    have HNAA := Lib.hid (HNA.out.on k5)
    clear k5
    rw [← HCY.out]
    rw [hl]
    clear hl
    clear HNA
    have HNA := HNAA
    clear HNAA
    go_upto_region 6 with fail
    clear s0
    have c3' : w5.cell? ⟨g9, 3, none⟩ = some (.int .i64 f.temp) := cell_rowZ 3 _ HNA.out.bo (by first | rfl | (rw [HCY.out]; rfl))
    have f3' := free_of_rowZ 3 HNA.out.bo
    go_upto_region 8 with fail
    clear c3' f3'
    have HNB := Lib.hid (HNA.out.put 3 (.int .i64 1) (OX' := pntC { f with temp := 1 } (.slice a1 f.L.length c1) (.slice a2 f.h.pl.length c2) (.slice a3 f.h.nl.length c3)) (by first | rfl | (rw [HCY.out]; rfl)))
    clear HNA
    obtain ⟨w6, hwn⟩ : ∃ w', w' = w5.setCell ⟨g9, 3, none⟩ (.int .i64 1) := ⟨_, rfl⟩
    rw [← hwn] at HNB
    rw [← hwn]
    clear hwn
    have s0 : w6.cell? ⟨q, 0, none⟩ = some (.bool true) := cell_rowZ 0 _ (HBX.out w6 HNB.out.k).1 (by rw [HCS.out, ← HSM.out]; rfl)
    have s2 : w6.cell? ⟨q, 2, none⟩ = some (.int .i64 s.time) := cell_rowZ 2 _ (HBX.out w6 HNB.out.k).1 (by rw [HCS.out]; rfl)
    have c5 : w6.cell? ⟨g9, 5, none⟩ = some (.int .i64 f.start) := cell_rowZ 5 _ HNB.out.bo rfl
    by_cases hg : s.time < f.start
    · have HOW : Hid (outA s f most = { f with temp := 1, flags := 8 }) := Lib.hid (by unfold outA; rw [if_neg (by rw [HSM.out]; decide), if_pos hg])
      have qg : decide (s.time < f.start) = true := decide_eq_true hg
      clear hg
      have c16' : w6.cell? ⟨g9, 16, none⟩ = some (.int .i64 f.flags) := cell_rowZ 16 _ HNB.out.bo (by first | rfl | (rw [HCY.out]; rfl))
      have f16' := free_of_rowZ 16 HNB.out.bo
      go_upto_region 12 with fail
      clear c16' f16'
      have HNE := Lib.hid (HNB.out.put 16 (.int .i64 8) (OX' := pntC { f with temp := 1, flags := 8 } (.slice a1 f.L.length c1) (.slice a2 f.h.pl.length c2) (.slice a3 f.h.nl.length c3)) (by first | rfl | (rw [HCY.out]; rfl)))
      clear HNB
      obtain ⟨w7, hwn⟩ : ∃ w', w' = w6.setCell ⟨g9, 16, none⟩ (.int .i64 8) := ⟨_, rfl⟩
      rw [← hwn] at HNE
      rw [← hwn]
      clear hwn
      clear s0 s2 c5
      obtain ⟨Y, hY⟩ : ∃ y : Pnt, y = { f with temp := 1, flags := 8 } := ⟨_, rfl⟩
      obtain ⟨NX, hNX⟩ : ∃ a, a = pntC { f with temp := 1, flags := 8 } (.slice a1 f.L.length c1) (.slice a2 f.h.pl.length c2) (.slice a3 f.h.nl.length c3) := ⟨_, rfl⟩
      have HY1 : Hid (∃ b1 b2 b3 d1 d2 d3, NX = pntC Y (.slice b1 Y.L.length d1) (.slice b2 Y.h.pl.length d2) (.slice b3 Y.h.nl.length d3) ∧ NC w2 w7 g9 NX Y b1 b2 b3 d1 d2 d3) := Lib.hid (by rw [hY]; exact ⟨a1, a2, a3, c1, c2, c3, hNX, HNE.out.k, by rw [hNX]; exact HNE.out.bo, HNE.out.lt, ⟨HNE.out.new.at_, HNE.out.new.mp, HNE.out.new.mn⟩⟩)
      have HL1 : Hid (Y.h.pl.length ≤ 1000000 ∧ Y.h.nl.length ≤ 1000000) := Lib.hid (by rw [hY]; exact ⟨HFO.out.lp, HFO.out.ln⟩)
      have HOW2 : Hid (outA s f most = Y) := Lib.hid (by rw [HOW.out, hY])
      clear hNX hY HNE
      obtain ⟨b1, b2, b3, d1, d2, d3, hNX, hNE⟩ := HY1.out
      clear HY1
      have HNX := Lib.hid hNX
      have HNY := Lib.hid hNE
      have HIN : Hid ((Try.prog.info? 37).map (·.size) = some NX.size ∧ NX.size = 17 ∧ NX.all (·.oneCell') = true) := Lib.hid (by rw [hNX]; exact ⟨point_info, rfl, pntC_one' (ones_slices _ _ _ _ _ _ _ _ _)⟩)
      clear hNX hNE
      have HHX := Lib.hid (fun w (n : NewP w2 w Y b1 b2 b3 d1 d2 d3) => hclone_new Y w n HL1.out.1 HL1.out.2)
      go_upto_region 12 with fail
      obtain ⟨wD, hwd⟩ : ∃ w', w' = w7.drew := ⟨_, rfl⟩
      refine AnyBut.start (S := fun w' => w'.heap[g9]? = some (.cells NX 37 (0, 0))) (k := 16) (by kernel_rfl) ?_
      rw [← hwd]
      have HKD : Hid (Kept (fun _ => False) w7 wD) := Lib.hid (by rw [hwd]; exact (Kept.refl _ _).drew)
      have HND := Lib.hid (HNY.out.on HKD.out)
      have HS0' : Hid ((fun w' => w'.heap[g9]? = some (.cells NX 37 (0, 0))) wD) := Lib.hid HND.out.bo
      clear hwd
      refine AnyBut.takeS (i := 0) (v := ?v21) rfl (by kernel_rfl) (Nat.le_of_eq (by kernel_rfl)) (by kernel_rfl) (by kernel_rfl) (fun _ _ _ h => h) (HS0'.out) (Or.inl ⟨by kernel_rfl, ?hy21⟩) ?r21
      case hy21 =>
        intro w hSw
        try dsimp only at hSw
        go_simp
        try with_reducible rfl
      try simp only [Act.put, List.getElem_toArray, List.getElem_cons_zero, List.setIfInBounds_toArray, List.set_cons_zero, List.set_cons_succ]
      refine AnyBut.takeS (i := 1) (v := ?v22) rfl (by kernel_rfl) (Nat.le_of_eq (by kernel_rfl)) (by kernel_rfl) (by kernel_rfl) (fun _ _ _ h => h) (HS0'.out) (Or.inl ⟨by kernel_rfl, ?hy22⟩) ?r22
      case hy22 =>
        intro w hSw
        try dsimp only at hSw
        have c5 := cell_rowZ 5 (.int .i64 Y.start) hSw (by rw [HNX.out]; rfl)
        go_simp
        try with_reducible rfl
      try simp only [Act.put, List.getElem_toArray, List.getElem_cons_succ, List.getElem_cons_zero, List.setIfInBounds_toArray, List.set_cons_zero, List.set_cons_succ]
      refine AnyBut.takeS (i := 2) (v := ?v23) rfl (by kernel_rfl) (Nat.le_of_eq (by kernel_rfl)) (by kernel_rfl) (by kernel_rfl) (fun _ _ _ h => h) (HS0'.out) (Or.inl ⟨by kernel_rfl, ?hy23⟩) ?r23
      case hy23 =>
        intro w hSw
        try dsimp only at hSw
        go_simp
        try with_reducible rfl
      try simp only [Act.put, List.getElem_toArray, List.getElem_cons_succ, List.getElem_cons_zero, List.setIfInBounds_toArray, List.set_cons_zero, List.set_cons_succ]
      refine AnyBut.takeS (i := 3) (v := ?v24) rfl (by kernel_rfl) (Nat.le_of_eq (by kernel_rfl)) (by kernel_rfl) (by kernel_rfl) (fun _ _ _ h => h) (HS0'.out) (Or.inl ⟨by kernel_rfl, ?hy24⟩) ?r24
      case hy24 =>
        intro w hSw
        try dsimp only at hSw
        have c6 := cell_rowZ 6 (.int .i64 Y.time) hSw (by rw [HNX.out]; rfl)
        go_simp
        try with_reducible rfl
      try simp only [Act.put, List.getElem_toArray, List.getElem_cons_succ, List.getElem_cons_zero, List.setIfInBounds_toArray, List.set_cons_zero, List.set_cons_succ]
      refine AnyBut.takeS (i := 4) (v := ?v25) rfl (by kernel_rfl) (Nat.le_of_eq (by kernel_rfl)) (by kernel_rfl) (by kernel_rfl) (fun _ _ _ h => h) (HS0'.out) (Or.inl ⟨by kernel_rfl, ?hy25⟩) ?r25
      case hy25 =>
        intro w hSw
        try dsimp only at hSw
        go_simp
        try with_reducible rfl
      try simp only [Act.put, List.getElem_toArray, List.getElem_cons_succ, List.getElem_cons_zero, List.setIfInBounds_toArray, List.set_cons_zero, List.set_cons_succ]
      refine AnyBut.takeS (i := 5) (v := ?v26) rfl (by kernel_rfl) (Nat.le_of_eq (by kernel_rfl)) (by kernel_rfl) (by kernel_rfl) (fun _ _ _ h => h) (HS0'.out) (Or.inl ⟨by kernel_rfl, ?hy26⟩) ?r26
      case hy26 =>
        intro w hSw
        try dsimp only at hSw
        have c7 := cell_rowZ 7 (.int .i64 Y.whole) hSw (by rw [HNX.out]; rfl)
        go_simp
        try with_reducible rfl
      try simp only [Act.put, List.getElem_toArray, List.getElem_cons_succ, List.getElem_cons_zero, List.setIfInBounds_toArray, List.set_cons_zero, List.set_cons_succ]
      refine AnyBut.takeS (i := 6) (v := ?v27) rfl (by kernel_rfl) (Nat.le_of_eq (by kernel_rfl)) (by kernel_rfl) (by kernel_rfl) (fun _ _ _ h => h) (HS0'.out) (Or.inl ⟨by kernel_rfl, ?hy27⟩) ?r27
      case hy27 =>
        intro w hSw
        try dsimp only at hSw
        go_simp
        try with_reducible rfl
      try simp only [Act.put, List.getElem_toArray, List.getElem_cons_succ, List.getElem_cons_zero, List.setIfInBounds_toArray, List.set_cons_zero, List.set_cons_succ]
      refine AnyBut.takeS (i := 7) (v := ?v28) rfl (by kernel_rfl) (Nat.le_of_eq (by kernel_rfl)) (by kernel_rfl) (by kernel_rfl) (fun _ _ _ h => h) (HS0'.out) (Or.inl ⟨by kernel_rfl, ?hy28⟩) ?r28
      case hy28 =>
        intro w hSw
        try dsimp only at hSw
        have c8 := cell_rowZ 8 (.int .u64 Y.re) hSw (by rw [HNX.out]; rfl)
        go_simp
        try with_reducible rfl
      try simp only [Act.put, List.getElem_toArray, List.getElem_cons_succ, List.getElem_cons_zero, List.setIfInBounds_toArray, List.set_cons_zero, List.set_cons_succ]
      refine AnyBut.takeS (i := 8) (v := ?v29) rfl (by kernel_rfl) (Nat.le_of_eq (by kernel_rfl)) (by kernel_rfl) (by kernel_rfl) (fun _ _ _ h => h) (HS0'.out) (Or.inl ⟨by kernel_rfl, ?hy29⟩) ?r29
      case hy29 =>
        intro w hSw
        try dsimp only at hSw
        go_simp
        try with_reducible rfl
      try simp only [Act.put, List.getElem_toArray, List.getElem_cons_succ, List.getElem_cons_zero, List.setIfInBounds_toArray, List.set_cons_zero, List.set_cons_succ]
      refine AnyBut.takeS (i := 9) (v := ?v30) rfl (by kernel_rfl) (Nat.le_of_eq (by kernel_rfl)) (by kernel_rfl) (by kernel_rfl) (fun _ _ _ h => h) (HS0'.out) (Or.inl ⟨by kernel_rfl, ?hy30⟩) ?r30
      case hy30 =>
        intro w hSw
        try dsimp only at hSw
        have c9 := cell_rowZ 9 (.int .u64 Y.im) hSw (by rw [HNX.out]; rfl)
        go_simp
        try with_reducible rfl
      try simp only [Act.put, List.getElem_toArray, List.getElem_cons_succ, List.getElem_cons_zero, List.setIfInBounds_toArray, List.set_cons_zero, List.set_cons_succ]
      refine AnyBut.takeS (i := 10) (v := ?v31) rfl (by kernel_rfl) (Nat.le_of_eq (by kernel_rfl)) (by kernel_rfl) (by kernel_rfl) (fun _ _ _ h => h) (HS0'.out) (Or.inl ⟨by kernel_rfl, ?hy31⟩) ?r31
      case hy31 =>
        intro w hSw
        try dsimp only at hSw
        go_simp
        try with_reducible rfl
      try simp only [Act.put, List.getElem_toArray, List.getElem_cons_succ, List.getElem_cons_zero, List.setIfInBounds_toArray, List.set_cons_zero, List.set_cons_succ]
      refine AnyBut.takeS (i := 11) (v := ?v32) rfl (by kernel_rfl) (Nat.le_of_eq (by kernel_rfl)) (by kernel_rfl) (by kernel_rfl) (fun _ _ _ h => h) (HS0'.out) (Or.inl ⟨by kernel_rfl, ?hy32⟩) ?r32
      case hy32 =>
        intro w hSw
        try dsimp only at hSw
        have c10 := cell_rowZ 10 (.int .i64 Y.h.sc) hSw (by rw [HNX.out]; rfl)
        have c11 := cell_rowZ 11 (.int .u64 (Y.h.ze : Int)) hSw (by rw [HNX.out]; rfl)
        have c12 := cell_rowZ 12 (.int .i64 Y.h.po) hSw (by rw [HNX.out]; rfl)
        have c13 := cell_rowZ 13 (.slice b2 Y.h.pl.length d2) hSw (by rw [HNX.out]; rfl)
        have c14 := cell_rowZ 14 (.int .i64 Y.h.no) hSw (by rw [HNX.out]; rfl)
        have c15 := cell_rowZ 15 (.slice b3 Y.h.nl.length d3) hSw (by rw [HNX.out]; rfl)
        go_simp
        try with_reducible rfl
      try simp only [Act.put, List.getElem_toArray, List.getElem_cons_succ, List.getElem_cons_zero, List.setIfInBounds_toArray, List.set_cons_zero, List.set_cons_succ]
      refine AnyBut.two (i := 12) (j := 14) (by kernel_rfl) rfl rfl (fun K hK => ?_) (fun K hK => ?_)
      · go_simp
        go_wp2_with fail
        refine (HHX.out wD HND.out.new).mono ?_
        rintro e w12 ⟨r2, r3, q2, q3, rfl, hn⟩
        have HH12 := Lib.hid (hn.down HND.out.k)
        have kk := hn.mp.kept
        have HN12 := Lib.hid (HND.out.on kk)
        have HS12 : Hid ((fun w' => w'.heap[g9]? = some (.cells NX 37 (0, 0))) w12) := Lib.hid HN12.out.bo
        clear kk hn
        go_wp2
        refine hK.out _ _ (HS12.out) ?_
        clear hK K
        try simp only [Act.put, List.getElem_toArray, List.getElem_cons_succ, List.getElem_cons_zero, List.setIfInBounds_toArray, List.set_cons_zero, List.set_cons_succ]
        refine AnyBut.takeS (i := 13) (v := ?v33) rfl (by kernel_rfl) (Nat.le_of_eq (by kernel_rfl)) (by kernel_rfl) (by kernel_rfl) (fun _ _ _ h => h) (HS12.out) (Or.inl ⟨by kernel_rfl, ?hy33⟩) ?r33
        case hy33 =>
          intro w hSw
          try dsimp only at hSw
          go_simp
          try with_reducible rfl
        try simp only [Act.put, List.getElem_toArray, List.getElem_cons_succ, List.getElem_cons_zero, List.setIfInBounds_toArray, List.set_cons_zero, List.set_cons_succ]
        refine AnyBut.one (i := 14) (by kernel_rfl) rfl (fun K hK => ?_)
        go_simp
        obtain ⟨g11, hg11⟩ : ∃ g, g = w12.heap.size := ⟨_, rfl⟩
        obtain ⟨w14, hnw⟩ : ∃ w', w' = (w12).alloc (.cells #[.bool false, .int .i64 0, .int .i64 0, .int .i64 0, .int .u64 0, .int .u64 0, .int .i64 0, .int .u64 0, .int .i64 0, .slice none 0 0, .int .i64 0, .slice none 0 0] 32) := ⟨_, rfl⟩
        have kk : Kept (fun _ => False) (w12) w14 := by rw [hnw]; exact (Kept.refl _ _).alloc _
        have HT14 : Hid (w14.heap[g11]? = some (.cells #[.bool false, .int .i64 0, .int .i64 0, .int .i64 0, .int .u64 0, .int .u64 0, .int .i64 0, .int .u64 0, .int .i64 0, .slice none 0 0, .int .i64 0, .slice none 0 0] 32 (0, 0))) := Lib.hid (by rw [hnw, hg11]; exact heap_alloc_new (w12) _)
        have HL11 : Hid (w2.heap.size ≤ g11) := Lib.hid (by rw [hg11]; exact HN12.out.k.size)
        have HN14 := Lib.hid (HN12.out.on kk)
        have HH14 := Lib.hid (HH12.out.on kk)
        have HS14 : Hid ((fun w' => w'.heap[g9]? = some (.cells NX 37 (0, 0))) w14) := Lib.hid HN14.out.bo
        rw [← hg11, ← hnw]
        clear hg11 hnw kk
        refine hK.out _ _ (HS14.out) ?_
        clear hK K
        try simp only [Act.put, List.getElem_toArray, List.getElem_cons_succ, List.getElem_cons_zero, List.setIfInBounds_toArray, List.set_cons_zero, List.set_cons_succ]
        refine AnyBut.one (i := 15) (by kernel_rfl) rfl (fun K hK => ?_)
        refine step_store_to (by rfl) 32 (.tmp 11) (.tmp 62) (by rfl) g11 (stC (stOf Y) (.slice r2 Y.h.pl.length q2) (.slice r3 Y.h.nl.length q3)) (by rfl) (by rfl) 32 #[.bool false, .int .i64 0, .int .i64 0, .int .i64 0, .int .u64 0, .int .u64 0, .int .i64 0, .int .u64 0, .int .i64 0, .slice none 0 0, .int .i64 0, .slice none 0 0] HT14.out state_info rfl (stC_one ⟨rfl, rfl⟩) ?_
        intro w15 hb15 k15
        have HB15 := Lib.hid hb15
        have HN15 := Lib.hid (HN14.out.out' k15 HT14.out (by decide) (by decide) (by decide) HL11.out)
        have HH15 := Lib.hid (HH14.out.set HT14.out (by decide) HL11.out k15)
        have HS15 : Hid ((fun w' => w'.heap[g9]? = some (.cells NX 37 (0, 0))) w15) := Lib.hid HN15.out.bo
        clear hb15 k15
        refine hK.out _ _ (HS15.out) ?_
        clear hK K
        try simp only [Act.put, List.getElem_toArray, List.getElem_cons_succ, List.getElem_cons_zero]
        refine AnyBut.done (by kernel_rfl) ?_
        go_wp2
        have HKE := Lib.hid ((Kept.refl (fun _ => False) w15).drew)
        have HNJ := Lib.hid (HN15.out.on HKE.out)
        have HHJ := Lib.hid (HH15.out.on HKE.out)
        have HS0 : Hid ((fun w' => w'.heap[g11]? = some (.cells (stC (stOf Y) (.slice r2 Y.h.pl.length q2) (.slice r3 Y.h.nl.length q3)) 32 (0, 0)) ∧ w'.heap[g9]? = some (.cells NX 37 (0, 0))) (w15.drew)) := Lib.hid ⟨HKE.out.same HB15.out (fun x => x), HNJ.out.bo⟩
        go_upto_region 13 with fail
        refine AnyBut.start (S := fun w' => w'.heap[g11]? = some (.cells (stC (stOf Y) (.slice r2 Y.h.pl.length q2) (.slice r3 Y.h.nl.length q3)) 32 (0, 0)) ∧ w'.heap[g9]? = some (.cells NX 37 (0, 0))) (k := 5) (by kernel_rfl) ?_
        refine AnyBut.takeS (i := 0) (v := ?v34) rfl (by kernel_rfl) (Nat.le_of_eq (by kernel_rfl)) (by kernel_rfl) (by kernel_rfl) (fun _ _ _ h => h) (HS0.out) (Or.inl ⟨by kernel_rfl, ?hy34⟩) ?r34
        case hy34 =>
          intro w hSw
          try dsimp only at hSw
          refine exec_load_row 32 (.tmp 11) ?_ g11 ?_ 32 _ (0, 0) _ hSw.1 Try.underlying32 rfl state_info
          · rfl
          · rfl
        try simp only [Act.put, List.getElem_toArray, List.getElem_cons_zero, List.setIfInBounds_toArray, List.set_cons_zero, List.set_cons_succ]
        refine AnyBut.takeS (i := 1) (v := ?v35) rfl (by kernel_rfl) (Nat.le_of_eq (by kernel_rfl)) (by kernel_rfl) (by kernel_rfl) (fun _ _ _ h => h) (HS0.out) (Or.inl ⟨by kernel_rfl, ?hy35⟩) ?r35
        case hy35 =>
          intro w hSw
          try dsimp only at hSw
          refine exec_load_row 37 (.tmp 9) ?_ g9 ?_ 37 _ (0, 0) _ hSw.2 Try.underlying37 rfl HIN.out.1
          · rfl
          · rfl
        try simp only [Act.put, List.getElem_toArray, List.getElem_cons_succ, List.getElem_cons_zero, List.setIfInBounds_toArray, List.set_cons_zero, List.set_cons_succ]
        refine AnyBut.one (i := 2) (by kernel_rfl) rfl (fun K hK => ?_)
        refine step_store_row (by rfl) 32 (.tmp 6) (.tmp 63) (by rfl) (q + 1 + 1) (stC (stOf Y) (.slice r2 Y.h.pl.length q2) (.slice r3 Y.h.nl.length q3)) (by rfl) (by rfl) 32 #[.bool false, .int .i64 0, .int .i64 0, .int .i64 0, .int .u64 0, .int .u64 0, .int .i64 0, .int .u64 0, .int .i64 0, .slice none 0 0, .int .i64 0, .slice none 0 0] (HBX.out (w15.drew) HNJ.out.k).2.2.1 state_info rfl (stC_one ⟨rfl, rfl⟩) ?_
        have HKx : Hid (Kept (fun i => i = q + 1 + 1) (w15.drew) ((w15.drew).setRow (q + 1 + 1) (stC (stOf Y) (.slice r2 Y.h.pl.length q2) (.slice r3 Y.h.nl.length q3)))) := Lib.hid (setRow_keptW _ _ _)
        have HBx : Hid (((w15.drew).setRow (q + 1 + 1) (stC (stOf Y) (.slice r2 Y.h.pl.length q2) (.slice r3 Y.h.nl.length q3))).heap[q + 1 + 1]? = some (.cells (stC (stOf Y) (.slice r2 Y.h.pl.length q2) (.slice r3 Y.h.nl.length q3)) 32 (0, 0)) ∧ ((w15.drew).setRow (q + 1 + 1) (stC (stOf Y) (.slice r2 Y.h.pl.length q2) (.slice r3 Y.h.nl.length q3))).heap[q + 1 + 1 + 1]? = some (.cells #[.string { data := #[] }, .slice none 0 0, .int .i64 0, .int .i64 0, .bool false, .int .i64 0, .int .i64 0, .int .i64 0, .int .u64 0, .int .u64 0, .int .i64 0, .int .u64 0, .int .i64 0, .slice none 0 0, .int .i64 0, .slice none 0 0, .int .i64 0] 37 (0, 0))) := Lib.hid ⟨setRow_heap _ _ _ _ _ _ (HBX.out (w15.drew) HNJ.out.k).2.2.1, HKx.out.same (HBX.out (w15.drew) HNJ.out.k).2.2.2 (by omega)⟩
        have HSx : Hid ((fun w' => w'.heap[g11]? = some (.cells (stC (stOf Y) (.slice r2 Y.h.pl.length q2) (.slice r3 Y.h.nl.length q3)) 32 (0, 0)) ∧ w'.heap[g9]? = some (.cells NX 37 (0, 0))) ((w15.drew).setRow (q + 1 + 1) (stC (stOf Y) (.slice r2 Y.h.pl.length q2) (.slice r3 Y.h.nl.length q3)))) := Lib.hid ⟨HKx.out.same HS0.out.1 (by have := (Array.getElem?_eq_some_iff.1 (HBX.out w2 (Kept.refl _ _)).2.2.2).1; have := HNJ.out.lt; have := HL11.out; omega), HKx.out.same HS0.out.2 (by have := (Array.getElem?_eq_some_iff.1 (HBX.out w2 (Kept.refl _ _)).2.2.2).1; have := HNJ.out.lt; have := HL11.out; omega)⟩
        refine hK.out _ _ (HSx.out) ?_
        clear hK K
        try simp only [Act.put, List.getElem_toArray, List.getElem_cons_succ, List.getElem_cons_zero]
        refine AnyBut.one (i := 3) (by kernel_rfl) rfl (fun K hK => ?_)
        refine step_store_row (by rfl) 37 (.tmp 7) (.tmp 64) (by rfl) (q + 1 + 1 + 1) NX (by rfl) (by rfl) 37 #[.string { data := #[] }, .slice none 0 0, .int .i64 0, .int .i64 0, .bool false, .int .i64 0, .int .i64 0, .int .i64 0, .int .u64 0, .int .u64 0, .int .i64 0, .int .u64 0, .int .i64 0, .slice none 0 0, .int .i64 0, .slice none 0 0, .int .i64 0] HBx.out.2 HIN.out.1 (by rw [HIN.out.2.1]; rfl) HIN.out.2.2 ?_
        have HKy : Hid (Kept (fun i => i = q + 1 + 1 + 1) ((w15.drew).setRow (q + 1 + 1) (stC (stOf Y) (.slice r2 Y.h.pl.length q2) (.slice r3 Y.h.nl.length q3))) (((w15.drew).setRow (q + 1 + 1) (stC (stOf Y) (.slice r2 Y.h.pl.length q2) (.slice r3 Y.h.nl.length q3))).setRow (q + 1 + 1 + 1) NX)) := Lib.hid (setRow_keptW _ _ _)
        have HBy : Hid ((((w15.drew).setRow (q + 1 + 1) (stC (stOf Y) (.slice r2 Y.h.pl.length q2) (.slice r3 Y.h.nl.length q3))).setRow (q + 1 + 1 + 1) NX).heap[q + 1 + 1]? = some (.cells (stC (stOf Y) (.slice r2 Y.h.pl.length q2) (.slice r3 Y.h.nl.length q3)) 32 (0, 0)) ∧ (((w15.drew).setRow (q + 1 + 1) (stC (stOf Y) (.slice r2 Y.h.pl.length q2) (.slice r3 Y.h.nl.length q3))).setRow (q + 1 + 1 + 1) NX).heap[q + 1 + 1 + 1]? = some (.cells NX 37 (0, 0))) := Lib.hid ⟨HKy.out.same HBx.out.1 (by omega), setRow_heap _ _ _ _ _ _ HBx.out.2⟩
        have HSy : Hid ((fun w' => w'.heap[g11]? = some (.cells (stC (stOf Y) (.slice r2 Y.h.pl.length q2) (.slice r3 Y.h.nl.length q3)) 32 (0, 0)) ∧ w'.heap[g9]? = some (.cells NX 37 (0, 0))) (((w15.drew).setRow (q + 1 + 1) (stC (stOf Y) (.slice r2 Y.h.pl.length q2) (.slice r3 Y.h.nl.length q3))).setRow (q + 1 + 1 + 1) NX)) := Lib.hid ⟨HKy.out.same HSx.out.1 (by have := (Array.getElem?_eq_some_iff.1 (HBX.out w2 (Kept.refl _ _)).2.2.2).1; have := HNJ.out.lt; have := HL11.out; omega), HKy.out.same HSx.out.2 (by have := (Array.getElem?_eq_some_iff.1 (HBX.out w2 (Kept.refl _ _)).2.2.2).1; have := HNJ.out.lt; have := HL11.out; omega)⟩
        refine hK.out _ _ (HSy.out) ?_
        clear hK K
        try simp only [Act.put, List.getElem_toArray, List.getElem_cons_succ, List.getElem_cons_zero]
        refine AnyBut.takeS (i := 4) (v := ?v36) rfl (by kernel_rfl) (Nat.le_of_eq (by kernel_rfl)) (by kernel_rfl) (by kernel_rfl) (fun _ _ _ h => h) (HSy.out) (Or.inl ⟨by kernel_rfl, ?hy36⟩) ?r36
        case hy36 =>
          intro w hSw
          try dsimp only at hSw
          go_simp
          try with_reducible rfl
        try simp only [Act.put, List.getElem_toArray, List.getElem_cons_succ, List.getElem_cons_zero, List.setIfInBounds_toArray, List.set_cons_zero, List.set_cons_succ]
        refine AnyBut.done (by kernel_rfl) ?_
        go_wp2
        refine bodyPost_ret (results_cct Try.results23 _ _ (q + 1 + 1) (q + 1 + 1 + 1) 32 37 _ _ (0, 0) (0, 0) _ _ rfl HBy.out.1 Try.underlying32 rfl state_info rfl HBy.out.2 Try.underlying37 rfl HIN.out.1) rfl ?_
        have n0 := HNJ.out.new.down HK02.out
        have n1 := n0.set (HBX.out (w15.drew) HNJ.out.k).2.2.1 (by decide) (by decide) (by have := HGE.out; omega) HKx.out
        have hlast := n1.set HBx.out.2 (by decide) (by decide) (by have := HGE.out; omega) HKy.out
        have h0 := HHJ.out.down HK02.out
        have h1 := h0.set (HBX.out (w15.drew) HNJ.out.k).2.2.1 (by decide) (by have := HGE.out; omega) HKx.out
        have hlastH := h1.set HBx.out.2 (by decide) (by have := HGE.out; omega) HKy.out
        rw [HOW2.out]
        exact ⟨_, _, _, rfl, ⟨r2, r3, q2, q3, rfl, rfl, hlastH⟩, ⟨b1, b2, b3, d1, d2, d3, by rw [HNX.out]; rfl, hlast⟩⟩
      · go_simp
        obtain ⟨g11, hg11⟩ : ∃ g, g = wD.heap.size := ⟨_, rfl⟩
        obtain ⟨w14, hnw⟩ : ∃ w', w' = (wD).alloc (.cells #[.bool false, .int .i64 0, .int .i64 0, .int .i64 0, .int .u64 0, .int .u64 0, .int .i64 0, .int .u64 0, .int .i64 0, .slice none 0 0, .int .i64 0, .slice none 0 0] 32) := ⟨_, rfl⟩
        have kk : Kept (fun _ => False) (wD) w14 := by rw [hnw]; exact (Kept.refl _ _).alloc _
        have HT14 : Hid (w14.heap[g11]? = some (.cells #[.bool false, .int .i64 0, .int .i64 0, .int .i64 0, .int .u64 0, .int .u64 0, .int .i64 0, .int .u64 0, .int .i64 0, .slice none 0 0, .int .i64 0, .slice none 0 0] 32 (0, 0))) := Lib.hid (by rw [hnw, hg11]; exact heap_alloc_new (wD) _)
        have HL11 : Hid (w2.heap.size ≤ g11) := Lib.hid (by rw [hg11]; exact HND.out.k.size)
        have HN14 := Lib.hid (HND.out.on kk)
        have HS14 : Hid ((fun w' => w'.heap[g9]? = some (.cells NX 37 (0, 0))) w14) := Lib.hid HN14.out.bo
        rw [← hg11, ← hnw]
        clear hg11 hnw kk
        refine hK.out _ _ (HS14.out) ?_
        clear hK K
        try simp only [Act.put, List.getElem_toArray, List.getElem_cons_succ, List.getElem_cons_zero, List.setIfInBounds_toArray, List.set_cons_zero, List.set_cons_succ]
        refine AnyBut.one (i := 12) (by kernel_rfl) rfl (fun K hK => ?_)
        go_simp
        go_wp2_with fail
        refine (HHX.out w14 HN14.out.new).mono ?_
        rintro e w12 ⟨r2, r3, q2, q3, rfl, hn⟩
        have HH12 := Lib.hid (hn.down HN14.out.k)
        have kk := hn.mp.kept
        have HN12 := Lib.hid (HN14.out.on kk)
        have HT12 := Lib.hid (kk.same HT14.out (fun x => x))
        have HS12 : Hid ((fun w' => w'.heap[g9]? = some (.cells NX 37 (0, 0))) w12) := Lib.hid HN12.out.bo
        clear kk hn
        go_wp2
        refine hK.out _ _ (HS12.out) ?_
        clear hK K
        try simp only [Act.put, List.getElem_toArray, List.getElem_cons_succ, List.getElem_cons_zero, List.setIfInBounds_toArray, List.set_cons_zero, List.set_cons_succ]
        refine AnyBut.takeS (i := 13) (v := ?v37) rfl (by kernel_rfl) (Nat.le_of_eq (by kernel_rfl)) (by kernel_rfl) (by kernel_rfl) (fun _ _ _ h => h) (HS12.out) (Or.inl ⟨by kernel_rfl, ?hy37⟩) ?r37
        case hy37 =>
          intro w hSw
          try dsimp only at hSw
          go_simp
          try with_reducible rfl
        try simp only [Act.put, List.getElem_toArray, List.getElem_cons_succ, List.getElem_cons_zero, List.setIfInBounds_toArray, List.set_cons_zero, List.set_cons_succ]
        refine AnyBut.one (i := 15) (by kernel_rfl) rfl (fun K hK => ?_)
        refine step_store_to (by rfl) 32 (.tmp 11) (.tmp 62) (by rfl) g11 (stC (stOf Y) (.slice r2 Y.h.pl.length q2) (.slice r3 Y.h.nl.length q3)) (by rfl) (by rfl) 32 #[.bool false, .int .i64 0, .int .i64 0, .int .i64 0, .int .u64 0, .int .u64 0, .int .i64 0, .int .u64 0, .int .i64 0, .slice none 0 0, .int .i64 0, .slice none 0 0] HT12.out state_info rfl (stC_one ⟨rfl, rfl⟩) ?_
        intro w15 hb15 k15
        have HB15 := Lib.hid hb15
        have HN15 := Lib.hid (HN12.out.out' k15 HT12.out (by decide) (by decide) (by decide) HL11.out)
        have HH15 := Lib.hid (HH12.out.set HT12.out (by decide) HL11.out k15)
        have HS15 : Hid ((fun w' => w'.heap[g9]? = some (.cells NX 37 (0, 0))) w15) := Lib.hid HN15.out.bo
        clear hb15 k15
        refine hK.out _ _ (HS15.out) ?_
        clear hK K
        try simp only [Act.put, List.getElem_toArray, List.getElem_cons_succ, List.getElem_cons_zero]
        refine AnyBut.done (by kernel_rfl) ?_
        go_wp2
        have HKE := Lib.hid ((Kept.refl (fun _ => False) w15).drew)
        have HNJ := Lib.hid (HN15.out.on HKE.out)
        have HHJ := Lib.hid (HH15.out.on HKE.out)
        have HS0 : Hid ((fun w' => w'.heap[g11]? = some (.cells (stC (stOf Y) (.slice r2 Y.h.pl.length q2) (.slice r3 Y.h.nl.length q3)) 32 (0, 0)) ∧ w'.heap[g9]? = some (.cells NX 37 (0, 0))) (w15.drew)) := Lib.hid ⟨HKE.out.same HB15.out (fun x => x), HNJ.out.bo⟩
        go_upto_region 13 with fail
        refine AnyBut.start (S := fun w' => w'.heap[g11]? = some (.cells (stC (stOf Y) (.slice r2 Y.h.pl.length q2) (.slice r3 Y.h.nl.length q3)) 32 (0, 0)) ∧ w'.heap[g9]? = some (.cells NX 37 (0, 0))) (k := 5) (by kernel_rfl) ?_
        refine AnyBut.takeS (i := 0) (v := ?v38) rfl (by kernel_rfl) (Nat.le_of_eq (by kernel_rfl)) (by kernel_rfl) (by kernel_rfl) (fun _ _ _ h => h) (HS0.out) (Or.inl ⟨by kernel_rfl, ?hy38⟩) ?r38
        case hy38 =>
          intro w hSw
          try dsimp only at hSw
          refine exec_load_row 32 (.tmp 11) ?_ g11 ?_ 32 _ (0, 0) _ hSw.1 Try.underlying32 rfl state_info
          · rfl
          · rfl
        try simp only [Act.put, List.getElem_toArray, List.getElem_cons_zero, List.setIfInBounds_toArray, List.set_cons_zero, List.set_cons_succ]
        refine AnyBut.takeS (i := 1) (v := ?v39) rfl (by kernel_rfl) (Nat.le_of_eq (by kernel_rfl)) (by kernel_rfl) (by kernel_rfl) (fun _ _ _ h => h) (HS0.out) (Or.inl ⟨by kernel_rfl, ?hy39⟩) ?r39
        case hy39 =>
          intro w hSw
          try dsimp only at hSw
          refine exec_load_row 37 (.tmp 9) ?_ g9 ?_ 37 _ (0, 0) _ hSw.2 Try.underlying37 rfl HIN.out.1
          · rfl
          · rfl
        try simp only [Act.put, List.getElem_toArray, List.getElem_cons_succ, List.getElem_cons_zero, List.setIfInBounds_toArray, List.set_cons_zero, List.set_cons_succ]
        refine AnyBut.one (i := 2) (by kernel_rfl) rfl (fun K hK => ?_)
        refine step_store_row (by rfl) 32 (.tmp 6) (.tmp 63) (by rfl) (q + 1 + 1) (stC (stOf Y) (.slice r2 Y.h.pl.length q2) (.slice r3 Y.h.nl.length q3)) (by rfl) (by rfl) 32 #[.bool false, .int .i64 0, .int .i64 0, .int .i64 0, .int .u64 0, .int .u64 0, .int .i64 0, .int .u64 0, .int .i64 0, .slice none 0 0, .int .i64 0, .slice none 0 0] (HBX.out (w15.drew) HNJ.out.k).2.2.1 state_info rfl (stC_one ⟨rfl, rfl⟩) ?_
        have HKx : Hid (Kept (fun i => i = q + 1 + 1) (w15.drew) ((w15.drew).setRow (q + 1 + 1) (stC (stOf Y) (.slice r2 Y.h.pl.length q2) (.slice r3 Y.h.nl.length q3)))) := Lib.hid (setRow_keptW _ _ _)
        have HBx : Hid (((w15.drew).setRow (q + 1 + 1) (stC (stOf Y) (.slice r2 Y.h.pl.length q2) (.slice r3 Y.h.nl.length q3))).heap[q + 1 + 1]? = some (.cells (stC (stOf Y) (.slice r2 Y.h.pl.length q2) (.slice r3 Y.h.nl.length q3)) 32 (0, 0)) ∧ ((w15.drew).setRow (q + 1 + 1) (stC (stOf Y) (.slice r2 Y.h.pl.length q2) (.slice r3 Y.h.nl.length q3))).heap[q + 1 + 1 + 1]? = some (.cells #[.string { data := #[] }, .slice none 0 0, .int .i64 0, .int .i64 0, .bool false, .int .i64 0, .int .i64 0, .int .i64 0, .int .u64 0, .int .u64 0, .int .i64 0, .int .u64 0, .int .i64 0, .slice none 0 0, .int .i64 0, .slice none 0 0, .int .i64 0] 37 (0, 0))) := Lib.hid ⟨setRow_heap _ _ _ _ _ _ (HBX.out (w15.drew) HNJ.out.k).2.2.1, HKx.out.same (HBX.out (w15.drew) HNJ.out.k).2.2.2 (by omega)⟩
        have HSx : Hid ((fun w' => w'.heap[g11]? = some (.cells (stC (stOf Y) (.slice r2 Y.h.pl.length q2) (.slice r3 Y.h.nl.length q3)) 32 (0, 0)) ∧ w'.heap[g9]? = some (.cells NX 37 (0, 0))) ((w15.drew).setRow (q + 1 + 1) (stC (stOf Y) (.slice r2 Y.h.pl.length q2) (.slice r3 Y.h.nl.length q3)))) := Lib.hid ⟨HKx.out.same HS0.out.1 (by have := (Array.getElem?_eq_some_iff.1 (HBX.out w2 (Kept.refl _ _)).2.2.2).1; have := HNJ.out.lt; have := HL11.out; omega), HKx.out.same HS0.out.2 (by have := (Array.getElem?_eq_some_iff.1 (HBX.out w2 (Kept.refl _ _)).2.2.2).1; have := HNJ.out.lt; have := HL11.out; omega)⟩
        refine hK.out _ _ (HSx.out) ?_
        clear hK K
        try simp only [Act.put, List.getElem_toArray, List.getElem_cons_succ, List.getElem_cons_zero]
        refine AnyBut.one (i := 3) (by kernel_rfl) rfl (fun K hK => ?_)
        refine step_store_row (by rfl) 37 (.tmp 7) (.tmp 64) (by rfl) (q + 1 + 1 + 1) NX (by rfl) (by rfl) 37 #[.string { data := #[] }, .slice none 0 0, .int .i64 0, .int .i64 0, .bool false, .int .i64 0, .int .i64 0, .int .i64 0, .int .u64 0, .int .u64 0, .int .i64 0, .int .u64 0, .int .i64 0, .slice none 0 0, .int .i64 0, .slice none 0 0, .int .i64 0] HBx.out.2 HIN.out.1 (by rw [HIN.out.2.1]; rfl) HIN.out.2.2 ?_
        have HKy : Hid (Kept (fun i => i = q + 1 + 1 + 1) ((w15.drew).setRow (q + 1 + 1) (stC (stOf Y) (.slice r2 Y.h.pl.length q2) (.slice r3 Y.h.nl.length q3))) (((w15.drew).setRow (q + 1 + 1) (stC (stOf Y) (.slice r2 Y.h.pl.length q2) (.slice r3 Y.h.nl.length q3))).setRow (q + 1 + 1 + 1) NX)) := Lib.hid (setRow_keptW _ _ _)
        have HBy : Hid ((((w15.drew).setRow (q + 1 + 1) (stC (stOf Y) (.slice r2 Y.h.pl.length q2) (.slice r3 Y.h.nl.length q3))).setRow (q + 1 + 1 + 1) NX).heap[q + 1 + 1]? = some (.cells (stC (stOf Y) (.slice r2 Y.h.pl.length q2) (.slice r3 Y.h.nl.length q3)) 32 (0, 0)) ∧ (((w15.drew).setRow (q + 1 + 1) (stC (stOf Y) (.slice r2 Y.h.pl.length q2) (.slice r3 Y.h.nl.length q3))).setRow (q + 1 + 1 + 1) NX).heap[q + 1 + 1 + 1]? = some (.cells NX 37 (0, 0))) := Lib.hid ⟨HKy.out.same HBx.out.1 (by omega), setRow_heap _ _ _ _ _ _ HBx.out.2⟩
        have HSy : Hid ((fun w' => w'.heap[g11]? = some (.cells (stC (stOf Y) (.slice r2 Y.h.pl.length q2) (.slice r3 Y.h.nl.length q3)) 32 (0, 0)) ∧ w'.heap[g9]? = some (.cells NX 37 (0, 0))) (((w15.drew).setRow (q + 1 + 1) (stC (stOf Y) (.slice r2 Y.h.pl.length q2) (.slice r3 Y.h.nl.length q3))).setRow (q + 1 + 1 + 1) NX)) := Lib.hid ⟨HKy.out.same HSx.out.1 (by have := (Array.getElem?_eq_some_iff.1 (HBX.out w2 (Kept.refl _ _)).2.2.2).1; have := HNJ.out.lt; have := HL11.out; omega), HKy.out.same HSx.out.2 (by have := (Array.getElem?_eq_some_iff.1 (HBX.out w2 (Kept.refl _ _)).2.2.2).1; have := HNJ.out.lt; have := HL11.out; omega)⟩
        refine hK.out _ _ (HSy.out) ?_
        clear hK K
        try simp only [Act.put, List.getElem_toArray, List.getElem_cons_succ, List.getElem_cons_zero]
        refine AnyBut.takeS (i := 4) (v := ?v40) rfl (by kernel_rfl) (Nat.le_of_eq (by kernel_rfl)) (by kernel_rfl) (by kernel_rfl) (fun _ _ _ h => h) (HSy.out) (Or.inl ⟨by kernel_rfl, ?hy40⟩) ?r40
        case hy40 =>
          intro w hSw
          try dsimp only at hSw
          go_simp
          try with_reducible rfl
        try simp only [Act.put, List.getElem_toArray, List.getElem_cons_succ, List.getElem_cons_zero, List.setIfInBounds_toArray, List.set_cons_zero, List.set_cons_succ]
        refine AnyBut.done (by kernel_rfl) ?_
        go_wp2
        refine bodyPost_ret (results_cct Try.results23 _ _ (q + 1 + 1) (q + 1 + 1 + 1) 32 37 _ _ (0, 0) (0, 0) _ _ rfl HBy.out.1 Try.underlying32 rfl state_info rfl HBy.out.2 Try.underlying37 rfl HIN.out.1) rfl ?_
        have n0 := HNJ.out.new.down HK02.out
        have n1 := n0.set (HBX.out (w15.drew) HNJ.out.k).2.2.1 (by decide) (by decide) (by have := HGE.out; omega) HKx.out
        have hlast := n1.set HBx.out.2 (by decide) (by decide) (by have := HGE.out; omega) HKy.out
        have h0 := HHJ.out.down HK02.out
        have h1 := h0.set (HBX.out (w15.drew) HNJ.out.k).2.2.1 (by decide) (by have := HGE.out; omega) HKx.out
        have hlastH := h1.set HBx.out.2 (by decide) (by have := HGE.out; omega) HKy.out
        rw [HOW2.out]
        exact ⟨_, _, _, rfl, ⟨r2, r3, q2, q3, rfl, rfl, hlastH⟩, ⟨b1, b2, b3, d1, d2, d3, by rw [HNX.out]; rfl, hlast⟩⟩
    · have HOW : Hid (outA s f most = moreA s { f with temp := 1 } most) := Lib.hid (by unfold outA; rw [if_neg (by rw [HSM.out]; decide), if_neg hg])
      have qg : decide (s.time < f.start) = false := decide_eq_false hg
      clear hg
      have hmo := moreA_any s sp sn { f with temp := 1 } a1 a2 a3 c1 c2 c3 most w2 w6 ⟨HNB.out.new.at_, HNB.out.new.mp, HNB.out.new.mn⟩ HFO.out.kd ⟨HHS.out.at_.on (HK02.out.trans HNB.out.k), HHS.out.ok, HHS.out.cp, HHS.out.cn⟩ HFO.out.h HLS.out.1 HLS.out.2 HFO.out.lp HFO.out.ln HU.out.1 HU.out.2 HFO.out.re HFO.out.im
      rw [← HCS.out] at hmo
      obtain ⟨OY, hOY⟩ : ∃ a, a = pntC { f with temp := 1 } (.slice a1 f.L.length c1) (.slice a2 f.h.pl.length c2) (.slice a3 f.h.nl.length c3) := ⟨_, rfl⟩
      have HIO : Hid ((Try.prog.info? 37).map (·.size) = some OY.size ∧ OY.size = 17) := Lib.hid (by rw [hOY]; exact ⟨point_info, rfl⟩)
      rw [← hOY] at HNB
      rw [show pntC { f with temp := 1 } (.slice a1 ({ f with temp := 1 } : Pnt).L.length c1) (.slice a2 ({ f with temp := 1 } : Pnt).h.pl.length c2) (.slice a3 ({ f with temp := 1 } : Pnt).h.nl.length c3) = OY from hOY.symm] at hmo
      have HMO := Lib.hid hmo
      clear hmo hOY
      obtain ⟨Y, hY⟩ : ∃ y : Pnt, y = moreA s { f with temp := 1 } most := ⟨_, rfl⟩
      rw [← hY] at HMO
      have HL1 : Hid (Y.h.pl.length ≤ 1000000 ∧ Y.h.nl.length ≤ 1000000) := Lib.hid (by rw [hY]; exact moreA_len (x := { f with temp := 1 }) HHS.out.ok HFO.out.h HFO.out.lp HFO.out.ln)
      have HOW2 : Hid (outA s f most = Y) := Lib.hid (by rw [HOW.out, hY])
      clear hY
      go_wp2_with (first
        | (refine wpList_load_row rfl 32 (.tmp 3) rfl q rfl 32 _ (0, 0) _ (HBX.out w6 HNB.out.k).1 Try.underlying32 rfl HIS.out ?_)
        | (refine wpList_load_row rfl 37 (.tmp 9) rfl g9 rfl 37 _ (0, 0) _ HNB.out.bo Try.underlying37 rfl HIO.out.1 ?_)
        | fail)
      refine HMO.out.mono ?_
      rintro e w7 ⟨v, rfl, g7, k7⟩
      have HNF := Lib.hid (HNB.out.on k7)
      obtain ⟨b1, b2, b3, d1, d2, d3, rfl, n7⟩ := g7
      have HN7 := Lib.hid n7
      unfold pntV
      obtain ⟨NX, hNX⟩ : ∃ a, a = pntC Y (.slice b1 Y.L.length d1) (.slice b2 Y.h.pl.length d2) (.slice b3 Y.h.nl.length d3) := ⟨_, rfl⟩
      rw [← hNX]
      have HIM : Hid ((Try.prog.info? 37).map (·.size) = some NX.size ∧ NX.size = 17 ∧ NX.all (·.oneCell') = true) := Lib.hid (by rw [hNX]; exact ⟨point_info, rfl, pntC_one' (ones_slices _ _ _ _ _ _ _ _ _)⟩)
      have HNXX := Lib.hid hNX
      clear k7 n7 hNX HNB s0 s2 c5
      go_upto_region 12 with (refine wpList_store_to rfl 37 (.tmp 9) _ rfl g9 NX rfl rfl 37 OY HNF.out.bo HIM.out.1 (by rw [HIO.out.2, HIM.out.2.1]) HIM.out.2.2 ?_; intro w8 hb8 k8; have HY1 : Hid (∃ b1 b2 b3 d1 d2 d3, NX = pntC Y (.slice b1 Y.L.length d1) (.slice b2 Y.h.pl.length d2) (.slice b3 Y.h.nl.length d3) ∧ NC w2 w8 g9 NX Y b1 b2 b3 d1 d2 d3) := Lib.hid ⟨b1, b2, b3, d1, d2, d3, HNXX.out, HNF.out.over HN7.out k8 hb8⟩; clear hb8 k8)
      clear HN7 HIM HNXX
      obtain ⟨b1, b2, b3, d1, d2, d3, hNX, hNE⟩ := HY1.out
      clear HY1
      have HNX := Lib.hid hNX
      have HNY := Lib.hid hNE
      have HIN : Hid ((Try.prog.info? 37).map (·.size) = some NX.size ∧ NX.size = 17 ∧ NX.all (·.oneCell') = true) := Lib.hid (by rw [hNX]; exact ⟨point_info, rfl, pntC_one' (ones_slices _ _ _ _ _ _ _ _ _)⟩)
      clear hNX hNE
      have HHX := Lib.hid (fun w (n : NewP w2 w Y b1 b2 b3 d1 d2 d3) => hclone_new Y w n HL1.out.1 HL1.out.2)
      go_upto_region 12 with fail
      obtain ⟨wD, hwd⟩ : ∃ w', w' = w8.drew := ⟨_, rfl⟩
      refine AnyBut.start (S := fun w' => w'.heap[g9]? = some (.cells NX 37 (0, 0))) (k := 16) (by kernel_rfl) ?_
      rw [← hwd]
      have HKD : Hid (Kept (fun _ => False) w8 wD) := Lib.hid (by rw [hwd]; exact (Kept.refl _ _).drew)
      have HND := Lib.hid (HNY.out.on HKD.out)
      have HS0' : Hid ((fun w' => w'.heap[g9]? = some (.cells NX 37 (0, 0))) wD) := Lib.hid HND.out.bo
      clear hwd
      refine AnyBut.takeS (i := 0) (v := ?v41) rfl (by kernel_rfl) (Nat.le_of_eq (by kernel_rfl)) (by kernel_rfl) (by kernel_rfl) (fun _ _ _ h => h) (HS0'.out) (Or.inl ⟨by kernel_rfl, ?hy41⟩) ?r41
      case hy41 =>
        intro w hSw
        try dsimp only at hSw
        go_simp
        try with_reducible rfl
      try simp only [Act.put, List.getElem_toArray, List.getElem_cons_zero, List.setIfInBounds_toArray, List.set_cons_zero, List.set_cons_succ]
      refine AnyBut.takeS (i := 1) (v := ?v42) rfl (by kernel_rfl) (Nat.le_of_eq (by kernel_rfl)) (by kernel_rfl) (by kernel_rfl) (fun _ _ _ h => h) (HS0'.out) (Or.inl ⟨by kernel_rfl, ?hy42⟩) ?r42
      case hy42 =>
        intro w hSw
        try dsimp only at hSw
        have c5 := cell_rowZ 5 (.int .i64 Y.start) hSw (by rw [HNX.out]; rfl)
        go_simp
        try with_reducible rfl
      try simp only [Act.put, List.getElem_toArray, List.getElem_cons_succ, List.getElem_cons_zero, List.setIfInBounds_toArray, List.set_cons_zero, List.set_cons_succ]
      refine AnyBut.takeS (i := 2) (v := ?v43) rfl (by kernel_rfl) (Nat.le_of_eq (by kernel_rfl)) (by kernel_rfl) (by kernel_rfl) (fun _ _ _ h => h) (HS0'.out) (Or.inl ⟨by kernel_rfl, ?hy43⟩) ?r43
      case hy43 =>
        intro w hSw
        try dsimp only at hSw
        go_simp
        try with_reducible rfl
      try simp only [Act.put, List.getElem_toArray, List.getElem_cons_succ, List.getElem_cons_zero, List.setIfInBounds_toArray, List.set_cons_zero, List.set_cons_succ]
      refine AnyBut.takeS (i := 3) (v := ?v44) rfl (by kernel_rfl) (Nat.le_of_eq (by kernel_rfl)) (by kernel_rfl) (by kernel_rfl) (fun _ _ _ h => h) (HS0'.out) (Or.inl ⟨by kernel_rfl, ?hy44⟩) ?r44
      case hy44 =>
        intro w hSw
        try dsimp only at hSw
        have c6 := cell_rowZ 6 (.int .i64 Y.time) hSw (by rw [HNX.out]; rfl)
        go_simp
        try with_reducible rfl
      try simp only [Act.put, List.getElem_toArray, List.getElem_cons_succ, List.getElem_cons_zero, List.setIfInBounds_toArray, List.set_cons_zero, List.set_cons_succ]
      refine AnyBut.takeS (i := 4) (v := ?v45) rfl (by kernel_rfl) (Nat.le_of_eq (by kernel_rfl)) (by kernel_rfl) (by kernel_rfl) (fun _ _ _ h => h) (HS0'.out) (Or.inl ⟨by kernel_rfl, ?hy45⟩) ?r45
      case hy45 =>
        intro w hSw
        try dsimp only at hSw
        go_simp
        try with_reducible rfl
      try simp only [Act.put, List.getElem_toArray, List.getElem_cons_succ, List.getElem_cons_zero, List.setIfInBounds_toArray, List.set_cons_zero, List.set_cons_succ]
      refine AnyBut.takeS (i := 5) (v := ?v46) rfl (by kernel_rfl) (Nat.le_of_eq (by kernel_rfl)) (by kernel_rfl) (by kernel_rfl) (fun _ _ _ h => h) (HS0'.out) (Or.inl ⟨by kernel_rfl, ?hy46⟩) ?r46
      case hy46 =>
        intro w hSw
        try dsimp only at hSw
        have c7 := cell_rowZ 7 (.int .i64 Y.whole) hSw (by rw [HNX.out]; rfl)
        go_simp
        try with_reducible rfl
      try simp only [Act.put, List.getElem_toArray, List.getElem_cons_succ, List.getElem_cons_zero, List.setIfInBounds_toArray, List.set_cons_zero, List.set_cons_succ]
      refine AnyBut.takeS (i := 6) (v := ?v47) rfl (by kernel_rfl) (Nat.le_of_eq (by kernel_rfl)) (by kernel_rfl) (by kernel_rfl) (fun _ _ _ h => h) (HS0'.out) (Or.inl ⟨by kernel_rfl, ?hy47⟩) ?r47
      case hy47 =>
        intro w hSw
        try dsimp only at hSw
        go_simp
        try with_reducible rfl
      try simp only [Act.put, List.getElem_toArray, List.getElem_cons_succ, List.getElem_cons_zero, List.setIfInBounds_toArray, List.set_cons_zero, List.set_cons_succ]
      refine AnyBut.takeS (i := 7) (v := ?v48) rfl (by kernel_rfl) (Nat.le_of_eq (by kernel_rfl)) (by kernel_rfl) (by kernel_rfl) (fun _ _ _ h => h) (HS0'.out) (Or.inl ⟨by kernel_rfl, ?hy48⟩) ?r48
      case hy48 =>
        intro w hSw
        try dsimp only at hSw
        have c8 := cell_rowZ 8 (.int .u64 Y.re) hSw (by rw [HNX.out]; rfl)
        go_simp
        try with_reducible rfl
      try simp only [Act.put, List.getElem_toArray, List.getElem_cons_succ, List.getElem_cons_zero, List.setIfInBounds_toArray, List.set_cons_zero, List.set_cons_succ]
      refine AnyBut.takeS (i := 8) (v := ?v49) rfl (by kernel_rfl) (Nat.le_of_eq (by kernel_rfl)) (by kernel_rfl) (by kernel_rfl) (fun _ _ _ h => h) (HS0'.out) (Or.inl ⟨by kernel_rfl, ?hy49⟩) ?r49
      case hy49 =>
        intro w hSw
        try dsimp only at hSw
        go_simp
        try with_reducible rfl
      try simp only [Act.put, List.getElem_toArray, List.getElem_cons_succ, List.getElem_cons_zero, List.setIfInBounds_toArray, List.set_cons_zero, List.set_cons_succ]
      refine AnyBut.takeS (i := 9) (v := ?v50) rfl (by kernel_rfl) (Nat.le_of_eq (by kernel_rfl)) (by kernel_rfl) (by kernel_rfl) (fun _ _ _ h => h) (HS0'.out) (Or.inl ⟨by kernel_rfl, ?hy50⟩) ?r50
      case hy50 =>
        intro w hSw
        try dsimp only at hSw
        have c9 := cell_rowZ 9 (.int .u64 Y.im) hSw (by rw [HNX.out]; rfl)
        go_simp
        try with_reducible rfl
      try simp only [Act.put, List.getElem_toArray, List.getElem_cons_succ, List.getElem_cons_zero, List.setIfInBounds_toArray, List.set_cons_zero, List.set_cons_succ]
      refine AnyBut.takeS (i := 10) (v := ?v51) rfl (by kernel_rfl) (Nat.le_of_eq (by kernel_rfl)) (by kernel_rfl) (by kernel_rfl) (fun _ _ _ h => h) (HS0'.out) (Or.inl ⟨by kernel_rfl, ?hy51⟩) ?r51
      case hy51 =>
        intro w hSw
        try dsimp only at hSw
        go_simp
        try with_reducible rfl
      try simp only [Act.put, List.getElem_toArray, List.getElem_cons_succ, List.getElem_cons_zero, List.setIfInBounds_toArray, List.set_cons_zero, List.set_cons_succ]
      refine AnyBut.takeS (i := 11) (v := ?v52) rfl (by kernel_rfl) (Nat.le_of_eq (by kernel_rfl)) (by kernel_rfl) (by kernel_rfl) (fun _ _ _ h => h) (HS0'.out) (Or.inl ⟨by kernel_rfl, ?hy52⟩) ?r52
      case hy52 =>
        intro w hSw
        try dsimp only at hSw
        have c10 := cell_rowZ 10 (.int .i64 Y.h.sc) hSw (by rw [HNX.out]; rfl)
        have c11 := cell_rowZ 11 (.int .u64 (Y.h.ze : Int)) hSw (by rw [HNX.out]; rfl)
        have c12 := cell_rowZ 12 (.int .i64 Y.h.po) hSw (by rw [HNX.out]; rfl)
        have c13 := cell_rowZ 13 (.slice b2 Y.h.pl.length d2) hSw (by rw [HNX.out]; rfl)
        have c14 := cell_rowZ 14 (.int .i64 Y.h.no) hSw (by rw [HNX.out]; rfl)
        have c15 := cell_rowZ 15 (.slice b3 Y.h.nl.length d3) hSw (by rw [HNX.out]; rfl)
        go_simp
        try with_reducible rfl
      try simp only [Act.put, List.getElem_toArray, List.getElem_cons_succ, List.getElem_cons_zero, List.setIfInBounds_toArray, List.set_cons_zero, List.set_cons_succ]
      refine AnyBut.two (i := 12) (j := 14) (by kernel_rfl) rfl rfl (fun K hK => ?_) (fun K hK => ?_)
      · go_simp
        go_wp2_with fail
        refine (HHX.out wD HND.out.new).mono ?_
        rintro e w12 ⟨r2, r3, q2, q3, rfl, hn⟩
        have HH12 := Lib.hid (hn.down HND.out.k)
        have kk := hn.mp.kept
        have HN12 := Lib.hid (HND.out.on kk)
        have HS12 : Hid ((fun w' => w'.heap[g9]? = some (.cells NX 37 (0, 0))) w12) := Lib.hid HN12.out.bo
        clear kk hn
        go_wp2
        refine hK.out _ _ (HS12.out) ?_
        clear hK K
        try simp only [Act.put, List.getElem_toArray, List.getElem_cons_succ, List.getElem_cons_zero, List.setIfInBounds_toArray, List.set_cons_zero, List.set_cons_succ]
        refine AnyBut.takeS (i := 13) (v := ?v53) rfl (by kernel_rfl) (Nat.le_of_eq (by kernel_rfl)) (by kernel_rfl) (by kernel_rfl) (fun _ _ _ h => h) (HS12.out) (Or.inl ⟨by kernel_rfl, ?hy53⟩) ?r53
        case hy53 =>
          intro w hSw
          try dsimp only at hSw
          go_simp
          try with_reducible rfl
        try simp only [Act.put, List.getElem_toArray, List.getElem_cons_succ, List.getElem_cons_zero, List.setIfInBounds_toArray, List.set_cons_zero, List.set_cons_succ]
        refine AnyBut.one (i := 14) (by kernel_rfl) rfl (fun K hK => ?_)
        go_simp
        obtain ⟨g11, hg11⟩ : ∃ g, g = w12.heap.size := ⟨_, rfl⟩
        obtain ⟨w14, hnw⟩ : ∃ w', w' = (w12).alloc (.cells #[.bool false, .int .i64 0, .int .i64 0, .int .i64 0, .int .u64 0, .int .u64 0, .int .i64 0, .int .u64 0, .int .i64 0, .slice none 0 0, .int .i64 0, .slice none 0 0] 32) := ⟨_, rfl⟩
        have kk : Kept (fun _ => False) (w12) w14 := by rw [hnw]; exact (Kept.refl _ _).alloc _
        have HT14 : Hid (w14.heap[g11]? = some (.cells #[.bool false, .int .i64 0, .int .i64 0, .int .i64 0, .int .u64 0, .int .u64 0, .int .i64 0, .int .u64 0, .int .i64 0, .slice none 0 0, .int .i64 0, .slice none 0 0] 32 (0, 0))) := Lib.hid (by rw [hnw, hg11]; exact heap_alloc_new (w12) _)
        have HL11 : Hid (w2.heap.size ≤ g11) := Lib.hid (by rw [hg11]; exact HN12.out.k.size)
        have HN14 := Lib.hid (HN12.out.on kk)
        have HH14 := Lib.hid (HH12.out.on kk)
        have HS14 : Hid ((fun w' => w'.heap[g9]? = some (.cells NX 37 (0, 0))) w14) := Lib.hid HN14.out.bo
        rw [← hg11, ← hnw]
        clear hg11 hnw kk
        refine hK.out _ _ (HS14.out) ?_
        clear hK K
        try simp only [Act.put, List.getElem_toArray, List.getElem_cons_succ, List.getElem_cons_zero, List.setIfInBounds_toArray, List.set_cons_zero, List.set_cons_succ]
        refine AnyBut.one (i := 15) (by kernel_rfl) rfl (fun K hK => ?_)
        refine step_store_to (by rfl) 32 (.tmp 11) (.tmp 62) (by rfl) g11 (stC (stOf Y) (.slice r2 Y.h.pl.length q2) (.slice r3 Y.h.nl.length q3)) (by rfl) (by rfl) 32 #[.bool false, .int .i64 0, .int .i64 0, .int .i64 0, .int .u64 0, .int .u64 0, .int .i64 0, .int .u64 0, .int .i64 0, .slice none 0 0, .int .i64 0, .slice none 0 0] HT14.out state_info rfl (stC_one ⟨rfl, rfl⟩) ?_
        intro w15 hb15 k15
        have HB15 := Lib.hid hb15
        have HN15 := Lib.hid (HN14.out.out' k15 HT14.out (by decide) (by decide) (by decide) HL11.out)
        have HH15 := Lib.hid (HH14.out.set HT14.out (by decide) HL11.out k15)
        have HS15 : Hid ((fun w' => w'.heap[g9]? = some (.cells NX 37 (0, 0))) w15) := Lib.hid HN15.out.bo
        clear hb15 k15
        refine hK.out _ _ (HS15.out) ?_
        clear hK K
        try simp only [Act.put, List.getElem_toArray, List.getElem_cons_succ, List.getElem_cons_zero]
        refine AnyBut.done (by kernel_rfl) ?_
        go_wp2
        have HKE := Lib.hid ((Kept.refl (fun _ => False) w15).drew)
        have HNJ := Lib.hid (HN15.out.on HKE.out)
        have HHJ := Lib.hid (HH15.out.on HKE.out)
        have HS0 : Hid ((fun w' => w'.heap[g11]? = some (.cells (stC (stOf Y) (.slice r2 Y.h.pl.length q2) (.slice r3 Y.h.nl.length q3)) 32 (0, 0)) ∧ w'.heap[g9]? = some (.cells NX 37 (0, 0))) (w15.drew)) := Lib.hid ⟨HKE.out.same HB15.out (fun x => x), HNJ.out.bo⟩
        go_upto_region 13 with fail
        refine AnyBut.start (S := fun w' => w'.heap[g11]? = some (.cells (stC (stOf Y) (.slice r2 Y.h.pl.length q2) (.slice r3 Y.h.nl.length q3)) 32 (0, 0)) ∧ w'.heap[g9]? = some (.cells NX 37 (0, 0))) (k := 5) (by kernel_rfl) ?_
        refine AnyBut.takeS (i := 0) (v := ?v54) rfl (by kernel_rfl) (Nat.le_of_eq (by kernel_rfl)) (by kernel_rfl) (by kernel_rfl) (fun _ _ _ h => h) (HS0.out) (Or.inl ⟨by kernel_rfl, ?hy54⟩) ?r54
        case hy54 =>
          intro w hSw
          try dsimp only at hSw
          refine exec_load_row 32 (.tmp 11) ?_ g11 ?_ 32 _ (0, 0) _ hSw.1 Try.underlying32 rfl state_info
          · rfl
          · rfl
        try simp only [Act.put, List.getElem_toArray, List.getElem_cons_zero, List.setIfInBounds_toArray, List.set_cons_zero, List.set_cons_succ]
        refine AnyBut.takeS (i := 1) (v := ?v55) rfl (by kernel_rfl) (Nat.le_of_eq (by kernel_rfl)) (by kernel_rfl) (by kernel_rfl) (fun _ _ _ h => h) (HS0.out) (Or.inl ⟨by kernel_rfl, ?hy55⟩) ?r55
        case hy55 =>
          intro w hSw
          try dsimp only at hSw
          refine exec_load_row 37 (.tmp 9) ?_ g9 ?_ 37 _ (0, 0) _ hSw.2 Try.underlying37 rfl HIN.out.1
          · rfl
          · rfl
        try simp only [Act.put, List.getElem_toArray, List.getElem_cons_succ, List.getElem_cons_zero, List.setIfInBounds_toArray, List.set_cons_zero, List.set_cons_succ]
        refine AnyBut.one (i := 2) (by kernel_rfl) rfl (fun K hK => ?_)
        refine step_store_row (by rfl) 32 (.tmp 6) (.tmp 63) (by rfl) (q + 1 + 1) (stC (stOf Y) (.slice r2 Y.h.pl.length q2) (.slice r3 Y.h.nl.length q3)) (by rfl) (by rfl) 32 #[.bool false, .int .i64 0, .int .i64 0, .int .i64 0, .int .u64 0, .int .u64 0, .int .i64 0, .int .u64 0, .int .i64 0, .slice none 0 0, .int .i64 0, .slice none 0 0] (HBX.out (w15.drew) HNJ.out.k).2.2.1 state_info rfl (stC_one ⟨rfl, rfl⟩) ?_
        have HKx : Hid (Kept (fun i => i = q + 1 + 1) (w15.drew) ((w15.drew).setRow (q + 1 + 1) (stC (stOf Y) (.slice r2 Y.h.pl.length q2) (.slice r3 Y.h.nl.length q3)))) := Lib.hid (setRow_keptW _ _ _)
        have HBx : Hid (((w15.drew).setRow (q + 1 + 1) (stC (stOf Y) (.slice r2 Y.h.pl.length q2) (.slice r3 Y.h.nl.length q3))).heap[q + 1 + 1]? = some (.cells (stC (stOf Y) (.slice r2 Y.h.pl.length q2) (.slice r3 Y.h.nl.length q3)) 32 (0, 0)) ∧ ((w15.drew).setRow (q + 1 + 1) (stC (stOf Y) (.slice r2 Y.h.pl.length q2) (.slice r3 Y.h.nl.length q3))).heap[q + 1 + 1 + 1]? = some (.cells #[.string { data := #[] }, .slice none 0 0, .int .i64 0, .int .i64 0, .bool false, .int .i64 0, .int .i64 0, .int .i64 0, .int .u64 0, .int .u64 0, .int .i64 0, .int .u64 0, .int .i64 0, .slice none 0 0, .int .i64 0, .slice none 0 0, .int .i64 0] 37 (0, 0))) := Lib.hid ⟨setRow_heap _ _ _ _ _ _ (HBX.out (w15.drew) HNJ.out.k).2.2.1, HKx.out.same (HBX.out (w15.drew) HNJ.out.k).2.2.2 (by omega)⟩
        have HSx : Hid ((fun w' => w'.heap[g11]? = some (.cells (stC (stOf Y) (.slice r2 Y.h.pl.length q2) (.slice r3 Y.h.nl.length q3)) 32 (0, 0)) ∧ w'.heap[g9]? = some (.cells NX 37 (0, 0))) ((w15.drew).setRow (q + 1 + 1) (stC (stOf Y) (.slice r2 Y.h.pl.length q2) (.slice r3 Y.h.nl.length q3)))) := Lib.hid ⟨HKx.out.same HS0.out.1 (by have := (Array.getElem?_eq_some_iff.1 (HBX.out w2 (Kept.refl _ _)).2.2.2).1; have := HNJ.out.lt; have := HL11.out; omega), HKx.out.same HS0.out.2 (by have := (Array.getElem?_eq_some_iff.1 (HBX.out w2 (Kept.refl _ _)).2.2.2).1; have := HNJ.out.lt; have := HL11.out; omega)⟩
        refine hK.out _ _ (HSx.out) ?_
        clear hK K
        try simp only [Act.put, List.getElem_toArray, List.getElem_cons_succ, List.getElem_cons_zero]
        refine AnyBut.one (i := 3) (by kernel_rfl) rfl (fun K hK => ?_)
        refine step_store_row (by rfl) 37 (.tmp 7) (.tmp 64) (by rfl) (q + 1 + 1 + 1) NX (by rfl) (by rfl) 37 #[.string { data := #[] }, .slice none 0 0, .int .i64 0, .int .i64 0, .bool false, .int .i64 0, .int .i64 0, .int .i64 0, .int .u64 0, .int .u64 0, .int .i64 0, .int .u64 0, .int .i64 0, .slice none 0 0, .int .i64 0, .slice none 0 0, .int .i64 0] HBx.out.2 HIN.out.1 (by rw [HIN.out.2.1]; rfl) HIN.out.2.2 ?_
        have HKy : Hid (Kept (fun i => i = q + 1 + 1 + 1) ((w15.drew).setRow (q + 1 + 1) (stC (stOf Y) (.slice r2 Y.h.pl.length q2) (.slice r3 Y.h.nl.length q3))) (((w15.drew).setRow (q + 1 + 1) (stC (stOf Y) (.slice r2 Y.h.pl.length q2) (.slice r3 Y.h.nl.length q3))).setRow (q + 1 + 1 + 1) NX)) := Lib.hid (setRow_keptW _ _ _)
        have HBy : Hid ((((w15.drew).setRow (q + 1 + 1) (stC (stOf Y) (.slice r2 Y.h.pl.length q2) (.slice r3 Y.h.nl.length q3))).setRow (q + 1 + 1 + 1) NX).heap[q + 1 + 1]? = some (.cells (stC (stOf Y) (.slice r2 Y.h.pl.length q2) (.slice r3 Y.h.nl.length q3)) 32 (0, 0)) ∧ (((w15.drew).setRow (q + 1 + 1) (stC (stOf Y) (.slice r2 Y.h.pl.length q2) (.slice r3 Y.h.nl.length q3))).setRow (q + 1 + 1 + 1) NX).heap[q + 1 + 1 + 1]? = some (.cells NX 37 (0, 0))) := Lib.hid ⟨HKy.out.same HBx.out.1 (by omega), setRow_heap _ _ _ _ _ _ HBx.out.2⟩
        have HSy : Hid ((fun w' => w'.heap[g11]? = some (.cells (stC (stOf Y) (.slice r2 Y.h.pl.length q2) (.slice r3 Y.h.nl.length q3)) 32 (0, 0)) ∧ w'.heap[g9]? = some (.cells NX 37 (0, 0))) (((w15.drew).setRow (q + 1 + 1) (stC (stOf Y) (.slice r2 Y.h.pl.length q2) (.slice r3 Y.h.nl.length q3))).setRow (q + 1 + 1 + 1) NX)) := Lib.hid ⟨HKy.out.same HSx.out.1 (by have := (Array.getElem?_eq_some_iff.1 (HBX.out w2 (Kept.refl _ _)).2.2.2).1; have := HNJ.out.lt; have := HL11.out; omega), HKy.out.same HSx.out.2 (by have := (Array.getElem?_eq_some_iff.1 (HBX.out w2 (Kept.refl _ _)).2.2.2).1; have := HNJ.out.lt; have := HL11.out; omega)⟩
        refine hK.out _ _ (HSy.out) ?_
        clear hK K
        try simp only [Act.put, List.getElem_toArray, List.getElem_cons_succ, List.getElem_cons_zero]
        refine AnyBut.takeS (i := 4) (v := ?v56) rfl (by kernel_rfl) (Nat.le_of_eq (by kernel_rfl)) (by kernel_rfl) (by kernel_rfl) (fun _ _ _ h => h) (HSy.out) (Or.inl ⟨by kernel_rfl, ?hy56⟩) ?r56
        case hy56 =>
          intro w hSw
          try dsimp only at hSw
          go_simp
          try with_reducible rfl
        try simp only [Act.put, List.getElem_toArray, List.getElem_cons_succ, List.getElem_cons_zero, List.setIfInBounds_toArray, List.set_cons_zero, List.set_cons_succ]
        refine AnyBut.done (by kernel_rfl) ?_
        go_wp2
        refine bodyPost_ret (results_cct Try.results23 _ _ (q + 1 + 1) (q + 1 + 1 + 1) 32 37 _ _ (0, 0) (0, 0) _ _ rfl HBy.out.1 Try.underlying32 rfl state_info rfl HBy.out.2 Try.underlying37 rfl HIN.out.1) rfl ?_
        have n0 := HNJ.out.new.down HK02.out
        have n1 := n0.set (HBX.out (w15.drew) HNJ.out.k).2.2.1 (by decide) (by decide) (by have := HGE.out; omega) HKx.out
        have hlast := n1.set HBx.out.2 (by decide) (by decide) (by have := HGE.out; omega) HKy.out
        have h0 := HHJ.out.down HK02.out
        have h1 := h0.set (HBX.out (w15.drew) HNJ.out.k).2.2.1 (by decide) (by have := HGE.out; omega) HKx.out
        have hlastH := h1.set HBx.out.2 (by decide) (by have := HGE.out; omega) HKy.out
        rw [HOW2.out]
        exact ⟨_, _, _, rfl, ⟨r2, r3, q2, q3, rfl, rfl, hlastH⟩, ⟨b1, b2, b3, d1, d2, d3, by rw [HNX.out]; rfl, hlast⟩⟩
      · go_simp
        obtain ⟨g11, hg11⟩ : ∃ g, g = wD.heap.size := ⟨_, rfl⟩
        obtain ⟨w14, hnw⟩ : ∃ w', w' = (wD).alloc (.cells #[.bool false, .int .i64 0, .int .i64 0, .int .i64 0, .int .u64 0, .int .u64 0, .int .i64 0, .int .u64 0, .int .i64 0, .slice none 0 0, .int .i64 0, .slice none 0 0] 32) := ⟨_, rfl⟩
        have kk : Kept (fun _ => False) (wD) w14 := by rw [hnw]; exact (Kept.refl _ _).alloc _
        have HT14 : Hid (w14.heap[g11]? = some (.cells #[.bool false, .int .i64 0, .int .i64 0, .int .i64 0, .int .u64 0, .int .u64 0, .int .i64 0, .int .u64 0, .int .i64 0, .slice none 0 0, .int .i64 0, .slice none 0 0] 32 (0, 0))) := Lib.hid (by rw [hnw, hg11]; exact heap_alloc_new (wD) _)
        have HL11 : Hid (w2.heap.size ≤ g11) := Lib.hid (by rw [hg11]; exact HND.out.k.size)
        have HN14 := Lib.hid (HND.out.on kk)
        have HS14 : Hid ((fun w' => w'.heap[g9]? = some (.cells NX 37 (0, 0))) w14) := Lib.hid HN14.out.bo
        rw [← hg11, ← hnw]
        clear hg11 hnw kk
        refine hK.out _ _ (HS14.out) ?_
        clear hK K
        try simp only [Act.put, List.getElem_toArray, List.getElem_cons_succ, List.getElem_cons_zero, List.setIfInBounds_toArray, List.set_cons_zero, List.set_cons_succ]
        refine AnyBut.one (i := 12) (by kernel_rfl) rfl (fun K hK => ?_)
        go_simp
        go_wp2_with fail
        refine (HHX.out w14 HN14.out.new).mono ?_
        rintro e w12 ⟨r2, r3, q2, q3, rfl, hn⟩
        have HH12 := Lib.hid (hn.down HN14.out.k)
        have kk := hn.mp.kept
        have HN12 := Lib.hid (HN14.out.on kk)
        have HT12 := Lib.hid (kk.same HT14.out (fun x => x))
        have HS12 : Hid ((fun w' => w'.heap[g9]? = some (.cells NX 37 (0, 0))) w12) := Lib.hid HN12.out.bo
        clear kk hn
        go_wp2
        refine hK.out _ _ (HS12.out) ?_
        clear hK K
        try simp only [Act.put, List.getElem_toArray, List.getElem_cons_succ, List.getElem_cons_zero, List.setIfInBounds_toArray, List.set_cons_zero, List.set_cons_succ]
        refine AnyBut.takeS (i := 13) (v := ?v57) rfl (by kernel_rfl) (Nat.le_of_eq (by kernel_rfl)) (by kernel_rfl) (by kernel_rfl) (fun _ _ _ h => h) (HS12.out) (Or.inl ⟨by kernel_rfl, ?hy57⟩) ?r57
        case hy57 =>
          intro w hSw
          try dsimp only at hSw
          go_simp
          try with_reducible rfl
        try simp only [Act.put, List.getElem_toArray, List.getElem_cons_succ, List.getElem_cons_zero, List.setIfInBounds_toArray, List.set_cons_zero, List.set_cons_succ]
        refine AnyBut.one (i := 15) (by kernel_rfl) rfl (fun K hK => ?_)
        refine step_store_to (by rfl) 32 (.tmp 11) (.tmp 62) (by rfl) g11 (stC (stOf Y) (.slice r2 Y.h.pl.length q2) (.slice r3 Y.h.nl.length q3)) (by rfl) (by rfl) 32 #[.bool false, .int .i64 0, .int .i64 0, .int .i64 0, .int .u64 0, .int .u64 0, .int .i64 0, .int .u64 0, .int .i64 0, .slice none 0 0, .int .i64 0, .slice none 0 0] HT12.out state_info rfl (stC_one ⟨rfl, rfl⟩) ?_
        intro w15 hb15 k15
        have HB15 := Lib.hid hb15
        have HN15 := Lib.hid (HN12.out.out' k15 HT12.out (by decide) (by decide) (by decide) HL11.out)
        have HH15 := Lib.hid (HH12.out.set HT12.out (by decide) HL11.out k15)
        have HS15 : Hid ((fun w' => w'.heap[g9]? = some (.cells NX 37 (0, 0))) w15) := Lib.hid HN15.out.bo
        clear hb15 k15
        refine hK.out _ _ (HS15.out) ?_
        clear hK K
        try simp only [Act.put, List.getElem_toArray, List.getElem_cons_succ, List.getElem_cons_zero]
        refine AnyBut.done (by kernel_rfl) ?_
        go_wp2
        have HKE := Lib.hid ((Kept.refl (fun _ => False) w15).drew)
        have HNJ := Lib.hid (HN15.out.on HKE.out)
        have HHJ := Lib.hid (HH15.out.on HKE.out)
        have HS0 : Hid ((fun w' => w'.heap[g11]? = some (.cells (stC (stOf Y) (.slice r2 Y.h.pl.length q2) (.slice r3 Y.h.nl.length q3)) 32 (0, 0)) ∧ w'.heap[g9]? = some (.cells NX 37 (0, 0))) (w15.drew)) := Lib.hid ⟨HKE.out.same HB15.out (fun x => x), HNJ.out.bo⟩
        go_upto_region 13 with fail
        refine AnyBut.start (S := fun w' => w'.heap[g11]? = some (.cells (stC (stOf Y) (.slice r2 Y.h.pl.length q2) (.slice r3 Y.h.nl.length q3)) 32 (0, 0)) ∧ w'.heap[g9]? = some (.cells NX 37 (0, 0))) (k := 5) (by kernel_rfl) ?_
        refine AnyBut.takeS (i := 0) (v := ?v58) rfl (by kernel_rfl) (Nat.le_of_eq (by kernel_rfl)) (by kernel_rfl) (by kernel_rfl) (fun _ _ _ h => h) (HS0.out) (Or.inl ⟨by kernel_rfl, ?hy58⟩) ?r58
        case hy58 =>
          intro w hSw
          try dsimp only at hSw
          refine exec_load_row 32 (.tmp 11) ?_ g11 ?_ 32 _ (0, 0) _ hSw.1 Try.underlying32 rfl state_info
          · rfl
          · rfl
        try simp only [Act.put, List.getElem_toArray, List.getElem_cons_zero, List.setIfInBounds_toArray, List.set_cons_zero, List.set_cons_succ]
        refine AnyBut.takeS (i := 1) (v := ?v59) rfl (by kernel_rfl) (Nat.le_of_eq (by kernel_rfl)) (by kernel_rfl) (by kernel_rfl) (fun _ _ _ h => h) (HS0.out) (Or.inl ⟨by kernel_rfl, ?hy59⟩) ?r59
        case hy59 =>
          intro w hSw
          try dsimp only at hSw
          refine exec_load_row 37 (.tmp 9) ?_ g9 ?_ 37 _ (0, 0) _ hSw.2 Try.underlying37 rfl HIN.out.1
          · rfl
          · rfl
        try simp only [Act.put, List.getElem_toArray, List.getElem_cons_succ, List.getElem_cons_zero, List.setIfInBounds_toArray, List.set_cons_zero, List.set_cons_succ]
        refine AnyBut.one (i := 2) (by kernel_rfl) rfl (fun K hK => ?_)
        refine step_store_row (by rfl) 32 (.tmp 6) (.tmp 63) (by rfl) (q + 1 + 1) (stC (stOf Y) (.slice r2 Y.h.pl.length q2) (.slice r3 Y.h.nl.length q3)) (by rfl) (by rfl) 32 #[.bool false, .int .i64 0, .int .i64 0, .int .i64 0, .int .u64 0, .int .u64 0, .int .i64 0, .int .u64 0, .int .i64 0, .slice none 0 0, .int .i64 0, .slice none 0 0] (HBX.out (w15.drew) HNJ.out.k).2.2.1 state_info rfl (stC_one ⟨rfl, rfl⟩) ?_
        have HKx : Hid (Kept (fun i => i = q + 1 + 1) (w15.drew) ((w15.drew).setRow (q + 1 + 1) (stC (stOf Y) (.slice r2 Y.h.pl.length q2) (.slice r3 Y.h.nl.length q3)))) := Lib.hid (setRow_keptW _ _ _)
        have HBx : Hid (((w15.drew).setRow (q + 1 + 1) (stC (stOf Y) (.slice r2 Y.h.pl.length q2) (.slice r3 Y.h.nl.length q3))).heap[q + 1 + 1]? = some (.cells (stC (stOf Y) (.slice r2 Y.h.pl.length q2) (.slice r3 Y.h.nl.length q3)) 32 (0, 0)) ∧ ((w15.drew).setRow (q + 1 + 1) (stC (stOf Y) (.slice r2 Y.h.pl.length q2) (.slice r3 Y.h.nl.length q3))).heap[q + 1 + 1 + 1]? = some (.cells #[.string { data := #[] }, .slice none 0 0, .int .i64 0, .int .i64 0, .bool false, .int .i64 0, .int .i64 0, .int .i64 0, .int .u64 0, .int .u64 0, .int .i64 0, .int .u64 0, .int .i64 0, .slice none 0 0, .int .i64 0, .slice none 0 0, .int .i64 0] 37 (0, 0))) := Lib.hid ⟨setRow_heap _ _ _ _ _ _ (HBX.out (w15.drew) HNJ.out.k).2.2.1, HKx.out.same (HBX.out (w15.drew) HNJ.out.k).2.2.2 (by omega)⟩
        have HSx : Hid ((fun w' => w'.heap[g11]? = some (.cells (stC (stOf Y) (.slice r2 Y.h.pl.length q2) (.slice r3 Y.h.nl.length q3)) 32 (0, 0)) ∧ w'.heap[g9]? = some (.cells NX 37 (0, 0))) ((w15.drew).setRow (q + 1 + 1) (stC (stOf Y) (.slice r2 Y.h.pl.length q2) (.slice r3 Y.h.nl.length q3)))) := Lib.hid ⟨HKx.out.same HS0.out.1 (by have := (Array.getElem?_eq_some_iff.1 (HBX.out w2 (Kept.refl _ _)).2.2.2).1; have := HNJ.out.lt; have := HL11.out; omega), HKx.out.same HS0.out.2 (by have := (Array.getElem?_eq_some_iff.1 (HBX.out w2 (Kept.refl _ _)).2.2.2).1; have := HNJ.out.lt; have := HL11.out; omega)⟩
        refine hK.out _ _ (HSx.out) ?_
        clear hK K
        try simp only [Act.put, List.getElem_toArray, List.getElem_cons_succ, List.getElem_cons_zero]
        refine AnyBut.one (i := 3) (by kernel_rfl) rfl (fun K hK => ?_)
        refine step_store_row (by rfl) 37 (.tmp 7) (.tmp 64) (by rfl) (q + 1 + 1 + 1) NX (by rfl) (by rfl) 37 #[.string { data := #[] }, .slice none 0 0, .int .i64 0, .int .i64 0, .bool false, .int .i64 0, .int .i64 0, .int .i64 0, .int .u64 0, .int .u64 0, .int .i64 0, .int .u64 0, .int .i64 0, .slice none 0 0, .int .i64 0, .slice none 0 0, .int .i64 0] HBx.out.2 HIN.out.1 (by rw [HIN.out.2.1]; rfl) HIN.out.2.2 ?_
        have HKy : Hid (Kept (fun i => i = q + 1 + 1 + 1) ((w15.drew).setRow (q + 1 + 1) (stC (stOf Y) (.slice r2 Y.h.pl.length q2) (.slice r3 Y.h.nl.length q3))) (((w15.drew).setRow (q + 1 + 1) (stC (stOf Y) (.slice r2 Y.h.pl.length q2) (.slice r3 Y.h.nl.length q3))).setRow (q + 1 + 1 + 1) NX)) := Lib.hid (setRow_keptW _ _ _)
        have HBy : Hid ((((w15.drew).setRow (q + 1 + 1) (stC (stOf Y) (.slice r2 Y.h.pl.length q2) (.slice r3 Y.h.nl.length q3))).setRow (q + 1 + 1 + 1) NX).heap[q + 1 + 1]? = some (.cells (stC (stOf Y) (.slice r2 Y.h.pl.length q2) (.slice r3 Y.h.nl.length q3)) 32 (0, 0)) ∧ (((w15.drew).setRow (q + 1 + 1) (stC (stOf Y) (.slice r2 Y.h.pl.length q2) (.slice r3 Y.h.nl.length q3))).setRow (q + 1 + 1 + 1) NX).heap[q + 1 + 1 + 1]? = some (.cells NX 37 (0, 0))) := Lib.hid ⟨HKy.out.same HBx.out.1 (by omega), setRow_heap _ _ _ _ _ _ HBx.out.2⟩
        have HSy : Hid ((fun w' => w'.heap[g11]? = some (.cells (stC (stOf Y) (.slice r2 Y.h.pl.length q2) (.slice r3 Y.h.nl.length q3)) 32 (0, 0)) ∧ w'.heap[g9]? = some (.cells NX 37 (0, 0))) (((w15.drew).setRow (q + 1 + 1) (stC (stOf Y) (.slice r2 Y.h.pl.length q2) (.slice r3 Y.h.nl.length q3))).setRow (q + 1 + 1 + 1) NX)) := Lib.hid ⟨HKy.out.same HSx.out.1 (by have := (Array.getElem?_eq_some_iff.1 (HBX.out w2 (Kept.refl _ _)).2.2.2).1; have := HNJ.out.lt; have := HL11.out; omega), HKy.out.same HSx.out.2 (by have := (Array.getElem?_eq_some_iff.1 (HBX.out w2 (Kept.refl _ _)).2.2.2).1; have := HNJ.out.lt; have := HL11.out; omega)⟩
        refine hK.out _ _ (HSy.out) ?_
        clear hK K
        try simp only [Act.put, List.getElem_toArray, List.getElem_cons_succ, List.getElem_cons_zero]
        refine AnyBut.takeS (i := 4) (v := ?v60) rfl (by kernel_rfl) (Nat.le_of_eq (by kernel_rfl)) (by kernel_rfl) (by kernel_rfl) (fun _ _ _ h => h) (HSy.out) (Or.inl ⟨by kernel_rfl, ?hy60⟩) ?r60
        case hy60 =>
          intro w hSw
          try dsimp only at hSw
          go_simp
          try with_reducible rfl
        try simp only [Act.put, List.getElem_toArray, List.getElem_cons_succ, List.getElem_cons_zero, List.setIfInBounds_toArray, List.set_cons_zero, List.set_cons_succ]
        refine AnyBut.done (by kernel_rfl) ?_
        go_wp2
        refine bodyPost_ret (results_cct Try.results23 _ _ (q + 1 + 1) (q + 1 + 1 + 1) 32 37 _ _ (0, 0) (0, 0) _ _ rfl HBy.out.1 Try.underlying32 rfl state_info rfl HBy.out.2 Try.underlying37 rfl HIN.out.1) rfl ?_
        have n0 := HNJ.out.new.down HK02.out
        have n1 := n0.set (HBX.out (w15.drew) HNJ.out.k).2.2.1 (by decide) (by decide) (by have := HGE.out; omega) HKx.out
        have hlast := n1.set HBx.out.2 (by decide) (by decide) (by have := HGE.out; omega) HKy.out
        have h0 := HHJ.out.down HK02.out
        have h1 := h0.set (HBX.out (w15.drew) HNJ.out.k).2.2.1 (by decide) (by have := HGE.out; omega) HKx.out
        have hlastH := h1.set HBx.out.2 (by decide) (by have := HGE.out; omega) HKy.out
        rw [HOW2.out]
        exact ⟨_, _, _, rfl, ⟨r2, r3, q2, q3, rfl, rfl, hlastH⟩, ⟨b1, b2, b3, d1, d2, d3, by rw [HNX.out]; rfl, hlast⟩⟩
end Go.Proofs.Ytiiibhdohlpodaa

