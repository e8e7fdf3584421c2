/- Texts put together: what the theorem stands on. -/
import Derived.Test.YtiiibhdohlpodaaZz8
import Derived.Test.YtiiibhdohlpodaaZz10
import Derived.Test.YtiiibhdohlpodaaZz11
import Derived.Test.YtiiibhdohlpodaaZz13

namespace Go.Proofs.Ytiiibhdohlpodaa
open Go.RowKit
attribute [local go_sem ↓] Go.wp_at_zero Go.wp_at_succ
/-- The boxes of less: the state, the point, the answers. -/
structure FB (w : World) (q : Nat) (CS CX : Array Value) : Prop where
  bs : w.heap[q]? = some (.cells CS 32 (0, 0))
  bx : w.heap[q + 1]? = some (.cells CX 37 (0, 0))
  bz : w.heap[q + 1 + 1]? = some (.cells #[.string { data := #[] }, .slice none 0 0, .int .i64 0, .int .i64 0, .bool false, .int .i64 0, .int .i64 0, .int .i64 0, .int .u64 0, .int .u64 0, .int .i64 0, .int .u64 0, .int .i64 0, .slice none 0 0, .int .i64 0, .slice none 0 0, .int .i64 0] 37 (0, 0))
  bh : w.heap[q + 1 + 1 + 1]? = some (.cells #[.int .i64 0, .int .u64 0, .int .i64 0, .slice none 0 0, .int .i64 0, .slice none 0 0] 30 (0, 0))
section
variable {w w' : World} {q : Nat} {CS CX CX' : Array Value}
theorem FB.on (h : FB w q CS CX) (k : Kept (fun _ => False) w w') : FB w' q CS CX := ⟨k.same h.bs (fun x => x), k.same h.bx (fun x => x), k.same h.bz (fun x => x), k.same h.bh (fun x => x)⟩
theorem FB.out (h : FB w q CS CX) (k : Kept (fun i => i = q + 1) w w') (hb : w'.heap[q + 1]? = some (.cells CX' 37 (0, 0))) : FB w' q CS CX' :=
  ⟨k.same h.bs (by omega), hb, k.same h.bz (by omega), k.same h.bh (by omega)⟩
theorem FB.putX (h : FB w q CS CX) (i : Nat) (v : Value) (e : CX.setIfInBounds i v = CX') : FB (w.setCell ⟨q + 1, i, none⟩ v) q CS CX' ∧ Kept (fun k => k = q + 1) w (w.setCell ⟨q + 1, i, none⟩ v) :=
  have kk := (Kept.refl (fun k => k = q + 1) w).setCell (p := ⟨q + 1, i, none⟩) (fun _ => rfl) v
  ⟨h.out kk (by rw [← e]; exact heap_setCell_same _ _ i _ _ _ h.bx), kk⟩
end
set_option maxHeartbeats 4000000 in
set_option maxRecDepth 100000 in
theorem less4_any (s : StV) (sp sn : Value) (x : Pnt) (a1 a2 a3 : Option Addr) (c1 c2 c3 : Nat) (W w : World) (n : NewP W w x a1 a2 a3 c1 c2 c3) (hk : x.kind = 4) (hs : HistIn w s.h sp sn) (ho : x.h.ok) (ls1 : s.h.pl.length ≤ 1000000) (ls2 : s.h.nl.length ≤ 1000000) (lx1 : x.h.pl.length ≤ 1000000) (lx2 : x.h.nl.length ≤ 1000000) :
    Calls Try.prog 64 #[.agg (stC s sp sn), .agg (pntC x (.slice a1 x.L.length c1) (.slice a2 x.h.pl.length c2) (.slice a3 x.h.nl.length c3))] w fun e w' => ∃ v tp tn, e = .returned (.tuple #[v, .agg (histA (lessH s x) tp tn)]) ∧ GotP W w' (lessA s x) v ∧ StN W w' (lessH s x) tp tn ∧ Kept (fun _ => False) w w' := by
  have HNA := Lib.hid n
  have hxin : HistIn w x.h (.slice a2 x.h.pl.length c2) (.slice a3 x.h.nl.length c3) := ⟨n.pnt.hist, ho, fun a' n' c' e => by injection e with _ e2 e3; have := own_capW n.mp.own; rw [uvals_length] at this; omega, fun a' n' c' e => by injection e with _ e2 e3; have := own_capW n.mn.own; rw [uvals_length] at this; omega⟩
  have HSU := Lib.hid (fun w' (k : Kept (fun _ => False) w w') => foldSub_any x.h s.h (.slice a2 x.h.pl.length c2) (.slice a3 x.h.nl.length c3) sp sn w' ⟨hxin.at_.on k, hxin.ok, hxin.cp, hxin.cn⟩ ⟨hs.at_.on k, hs.ok, hs.cp, hs.cn⟩ lx1 lx2 ls1 ls2)
  have HLV := Lib.hid (fun w' (k : Kept (fun _ => False) w w') => foldLevel_any x.h s.h (.slice a2 x.h.pl.length c2) (.slice a3 x.h.nl.length c3) sp sn w' (hxin.at_.on k) (hs.at_.on k) ho hs.ok lx1 lx2 ls1 ls2)
  have HCL := Lib.hid (fun w' (k : Kept (fun _ => False) w w') => hclone_new x w' (n.on k) lx1 lx2)
  have hla : lessA s x = if (subG x.h s.h).2 = 0 then { x with h := (subG x.h s.h).1 } else { x with flags := 4 } := by unfold lessA; rw [if_neg (by rw [hk]; decide), if_pos hk]
  have hlh : lessH s x = if (subG x.h s.h).2 = 0 then levX x.h s.h else x.h := by unfold lessH; by_cases h : (subG x.h s.h).2 = 0 <;> simp [hk, h]
  have hsg := subG_of x.h s.h
  rw [hla, hlh]
  obtain ⟨R, hR⟩ : ∃ r, r = (subG x.h s.h).1 := ⟨_, rfl⟩
  obtain ⟨E, hE⟩ : ∃ r, r = (subG x.h s.h).2 := ⟨_, rfl⟩
  rw [← hR, ← hE] at hsg ⊢
  have HSG := Lib.hid hsg
  obtain ⟨X, hX⟩ : ∃ r, r = levX x.h s.h := ⟨_, rfl⟩
  obtain ⟨Y, hY⟩ : ∃ r, r = levY x.h s.h := ⟨_, rfl⟩
  rw [← hX, ← hY] at HLV
  rw [← hX]
  have HLE : Hid (E = 0 → levE x.h s.h = 0) := Lib.hid (fun e => by rcases hsg with ⟨a, b, _⟩ | ⟨a, _⟩; omega; exact a)
  clear hla hlh hsg hR hE hX hY hxin hs ho ls1 ls2 lx1 lx2 n
  obtain ⟨av, hav⟩ : ∃ v, v = Value.slice a1 x.L.length c1 := ⟨_, rfl⟩
  obtain ⟨pv, hpv⟩ : ∃ v, v = Value.slice a2 x.h.pl.length c2 := ⟨_, rfl⟩
  obtain ⟨nv, hnv⟩ : ∃ v, v = Value.slice a3 x.h.nl.length c3 := ⟨_, rfl⟩
  have HVS := Lib.hid (And.intro hav (And.intro hpv hnv))
  have hv : Ones av pv nv := by rw [hav, hpv, hnv]; exact ones_slices _ _ _ _ _ _ _ _ _
  rw [histV_A, histV_A, ← hpv, ← hnv] at HSU HLV
  rw [← hpv, ← hnv] at HCL
  rw [← hav, ← hpv, ← hnv]
  have HAV := Lib.hid hv
  obtain ⟨HS, hHS⟩ : ∃ a, a = histA s.h sp sn := ⟨_, rfl⟩
  obtain ⟨HX, hHX⟩ : ∃ a, a = histA x.h pv nv := ⟨_, rfl⟩
  rw [← hHS, ← hHX] at HSU HLV
  rw [show (Value.agg #[.int .i64 x.h.sc, .int .u64 (x.h.ze : Int), .int .i64 x.h.po, pv, .int .i64 x.h.no, nv]) = .agg HX by rw [hHX]; rfl] at HCL
  have HIH : Hid ((Try.prog.info? 30).map (·.size) = some HS.size ∧ (Try.prog.info? 30).map (·.size) = some HX.size) := Lib.hid (by rw [hHS, hHX]; exact ⟨hist_info, hist_info⟩)
  obtain ⟨CS, hCS⟩ : ∃ a, a = stC s sp sn := ⟨_, rfl⟩
  obtain ⟨CX, hCX⟩ : ∃ a, a = pntC x av pv nv := ⟨_, rfl⟩
  rw [← hCS, ← hCX]
  obtain ⟨q, hq⟩ : ∃ q, q = w.heap.size := ⟨_, rfl⟩
  obtain ⟨w2, hw2⟩ : ∃ w2, w2 = (((w.alloc (.cells CS 32)).alloc (.cells CX 37)).alloc (.cells #[.string { data := #[] }, .slice none 0 0, .int .i64 0, .int .i64 0, .bool false, .int .i64 0, .int .i64 0, .int .i64 0, .int .u64 0, .int .u64 0, .int .i64 0, .int .u64 0, .int .i64 0, .slice none 0 0, .int .i64 0, .slice none 0 0, .int .i64 0] 37)).alloc (.cells #[.int .i64 0, .int .u64 0, .int .i64 0, .slice none 0 0, .int .i64 0, .slice none 0 0] 30) := ⟨_, rfl⟩
  have k2 : Kept (fun _ => False) w w2 := by rw [hw2]; exact ((((Kept.refl _ _).alloc _).alloc _).alloc _).alloc _
  have hb : w2.heap[q]? = some (.cells CS 32 (0, 0)) ∧ w2.heap[q + 1]? = some (.cells CX 37 (0, 0)) ∧ w2.heap[q + 1 + 1]? = some (.cells #[.string { data := #[] }, .slice none 0 0, .int .i64 0, .int .i64 0, .bool false, .int .i64 0, .int .i64 0, .int .i64 0, .int .u64 0, .int .u64 0, .int .i64 0, .int .u64 0, .int .i64 0, .slice none 0 0, .int .i64 0, .slice none 0 0, .int .i64 0] 37 (0, 0)) ∧ w2.heap[q + 1 + 1 + 1]? = some (.cells #[.int .i64 0, .int .u64 0, .int .i64 0, .slice none 0 0, .int .i64 0, .slice none 0 0] 30 (0, 0)) := by rw [hw2, hq]; exact alloc4 w _ _ _ _
  have HW2 := Lib.hid (And.intro hw2 hq)
  have HK02 := Lib.hid k2
  have HGE : Hid (w.heap.size ≤ q) := Lib.hid (by omega)
  have HB := Lib.hid hb
  have HCX := Lib.hid hCX
  have HFB : Hid (FB w2 q CS CX) := Lib.hid ⟨hb.1, hb.2.1, hb.2.2.1, hb.2.2.2⟩
  have HIX : Hid ((Try.prog.info? 37).map (·.size) = some CX.size ∧ CX.size = 17 ∧ CX.all (·.oneCell') = true) := Lib.hid (by rw [hCX]; exact ⟨point_info, rfl, pntC_one' hv⟩)
  have HPS : Hid (∀ w' : World, w'.heap[q]? = some (.cells CS 32 (0, 0)) → w'.rangeAt q 6 HS.toList) := Lib.hid (fun w' h => range_part h 6 _ (by rw [hCS, hHS]; exact st_hist s _ _))
  have HPX : Hid (∀ w' : World, w'.heap[q + 1]? = some (.cells CX 37 (0, 0)) → w'.rangeAt (q + 1) 10 HX.toList) := Lib.hid (fun w' h => range_part h 10 _ (by rw [hCX, hHX]; exact pnt_hist x _ _ _))
  have HHX := Lib.hid hHX
  have c2 : w2.cell? ⟨q + 1, 2, none⟩ = some (.int .i64 4) := cell_rowZ 2 _ hb.2.1 (by rw [hCX, ← hk]; rfl)
  clear hw2 hq k2 hb hCS hCX hv hk hHS hHX hav hpv hnv HB
  have HQW : Hid (W.heap.size ≤ q + 1 + 1 ∧ W.heap.size ≤ q + 1 + 1 + 1 ∧ W.heap.size ≤ q + 1) := Lib.hid (by have := HNA.out.at_.kept.size; have := HGE.out; omega)
  by_cases hE : E = 0
  case neg =>
    rw [if_neg hE, if_neg hE]
    have q1 : ((E : Int) != 0) = true := by rw [bne_iff_ne]; omega
    clear hE HLV HLE
    go_enter Try.func64, Try.ntmps64
    go_upto_region 1 with fail
    rw [← HW2.out.1, ← HW2.out.2]
    go_upto_region 7 with fail
    clear c2
    go_upto_region 8 with (first | (refine wpList_load_part rfl 30 (.tmp 29) rfl (q + 1) 10 rfl HX _ (HPX.out w2 HFB.out.bx) Try.underlying30 rfl HIH.out.2 ?_) | (refine wpList_load_part rfl 30 (.tmp 31) rfl q 6 rfl HS _ (HPS.out w2 HFB.out.bs) Try.underlying30 rfl HIH.out.1 ?_) | (go_at_call 87; refine (HSU.out w2 HK02.out).mono ?_; rintro e w3 ⟨R', E', hr, pv', nv', rfl, m1, m2⟩; obtain ⟨hr1, hr2⟩ := SubH.uniq HSG.out hr; subst hr1 hr2; clear hr; obtain ⟨d2, d3, e2, e3, rfl, rfl, hn⟩ := HN.of m1 m2; clear m1 m2; have HHN := Lib.hid hn; have HF3 := Lib.hid (HFB.out.on hn.mp.kept); have HK3 := Lib.hid (HK02.out.trans hn.mp.kept); clear hn; rw [histV_A]; obtain ⟨RA, hRA⟩ : ∃ a, a = histA R (.slice d2 R.pl.length e2) (.slice d3 R.nl.length e3) := ⟨_, rfl⟩; rw [← hRA]; have HRA := Lib.hid hRA; clear hRA; have HIR : Hid ((Try.prog.info? 30).map (·.size) = some RA.size ∧ RA.size = 6 ∧ RA.all (·.oneCell') = true) := Lib.hid (by rw [HRA.out]; exact ⟨hist_info, rfl, histC_one ⟨rfl, rfl⟩⟩)) | (refine wpList_store_box rfl 30 (.tmp 6) _ rfl w3 _ RA 30 rfl rfl rfl HIR.out.1 (by rw [HIR.out.2.1]; rfl) HIR.out.2.2 ?_; intro w4 hb4 k4; have HB4 := Lib.hid hb4; have HF4 := Lib.hid (HF3.out.on k4); have HK4 := Lib.hid (HK3.out.trans k4); have HHN4 := Lib.hid (HHN.out.on k4); clear hb4 k4))
    obtain ⟨g6, hg6⟩ : ∃ g, g = w3.heap.size := ⟨_, rfl⟩
    rw [← hg6] at HB4
    rw [← hg6]
    have HG6 : Hid (w.heap.size ≤ g6 ∧ q + 1 + 1 + 1 < g6) := Lib.hid (by have h1 := HK3.out.size; have h2 := (Array.getElem?_eq_some_iff.1 HF3.out.bh).1; omega)
    clear hg6
    clear HSU HSG
    have c16 : w4.cell? ⟨q + 1, 16, none⟩ = some (.int .i64 x.flags) := cell_rowZ 16 _ HF4.out.bx (by rw [HCX.out]; rfl)
    have f16 := free_of_rowZ 16 HF4.out.bx
    go_upto_region 10 with fail
    clear c16 f16
    obtain ⟨w5, hw5⟩ : ∃ w', w' = w4.setCell ⟨q + 1, 16, none⟩ (.int .i64 4) := ⟨_, rfl⟩
    obtain ⟨NX, hNX⟩ : ∃ a, a = pntC { x with flags := 4 } av pv nv := ⟨_, rfl⟩
    have h5 := HF4.out.putX 16 (.int .i64 4) (CX' := NX) (by rw [hNX, HCX.out]; rfl)
    rw [← hw5] at h5
    have HF5 := Lib.hid h5.1
    have HK5 := Lib.hid (HK4.out.newer h5.2 (fun i e => by have := HGE.out; omega))
    have HIN : Hid ((Try.prog.info? 37).map (·.size) = some NX.size ∧ (#[.string { data := #[] }, .slice none 0 0, .int .i64 0, .int .i64 0, .bool false, .int .i64 0, .int .i64 0, .int .i64 0, .int .u64 0, .int .u64 0, .int .i64 0, .int .u64 0, .int .i64 0, .slice none 0 0, .int .i64 0, .slice none 0 0, .int .i64 0] : Array Value).size = NX.size ∧ NX.all (·.oneCell') = true) := Lib.hid (by rw [hNX]; exact ⟨point_info, rfl, pntC_one' HAV.out⟩)
    have HPN : Hid (∀ w' : World, w'.heap[q + 1]? = some (.cells NX 37 (0, 0)) → w'.rangeAt (q + 1) 10 HX.toList) := Lib.hid (fun w' h => range_part h 10 _ (by rw [hNX, HHX.out]; exact pnt_hist { x with flags := 4 } _ _ _))
    have HNX := Lib.hid hNX
    rw [← hw5]
    clear hw5 h5 hNX
    obtain ⟨wD, hwd⟩ : ∃ w', w' = w5.drew := ⟨_, rfl⟩
    refine AnyBut.start (S := fun w' => w'.heap[q + 1]? = some (.cells NX 37 (0, 0))) (k := 6) (by kernel_rfl) ?_
    rw [← hwd]
    have HKD : Hid (Kept (fun _ => False) w wD) := Lib.hid (by rw [hwd]; exact HK5.out.trans (Kept.refl _ _).drew)
    have HFD : Hid (FB wD q CS NX) := Lib.hid (by rw [hwd]; exact HF5.out.on (Kept.refl _ _).drew)
    have HS0 : Hid ((fun w' => w'.heap[q + 1]? = some (.cells NX 37 (0, 0))) wD) := Lib.hid HFD.out.bx
    clear hwd
    refine AnyBut.takeS (i := 0) (v := ?v1) rfl (by kernel_rfl) (Nat.le_of_eq (by kernel_rfl)) (by kernel_rfl) (by kernel_rfl) (fun _ _ _ h => h) (HS0.out) (Or.inl ⟨by kernel_rfl, ?hy1⟩) ?r1
    case hy1 =>
      intro w hSw
      try dsimp only at hSw
      refine exec_load_row 37 (.tmp 3) ?_ (q + 1) ?_ 37 _ (0, 0) _ hSw Try.underlying37 rfl HIN.out.1
      · rfl
      · rfl
    try simp only [Act.put, List.getElem_toArray, List.getElem_cons_zero, List.setIfInBounds_toArray, List.set_cons_zero, List.set_cons_succ]
    refine AnyBut.takeS (i := 1) (v := ?v2) rfl (by kernel_rfl) (Nat.le_of_eq (by kernel_rfl)) (by kernel_rfl) (by kernel_rfl) (fun _ _ _ h => h) (HS0.out) (Or.inl ⟨by kernel_rfl, ?hy2⟩) ?r2
    case hy2 =>
      intro w hSw
      try dsimp only at hSw
      go_simp
      try with_reducible rfl
    try simp only [Act.put, List.getElem_toArray, List.getElem_cons_succ, List.getElem_cons_zero, List.setIfInBounds_toArray, List.set_cons_zero, List.set_cons_succ]
    refine AnyBut.takeS (i := 2) (v := ?v3) rfl (by kernel_rfl) (Nat.le_of_eq (by kernel_rfl)) (by kernel_rfl) (by kernel_rfl) (fun _ _ _ h => h) (HS0.out) (Or.inl ⟨by kernel_rfl, ?hy3⟩) ?r3
    case hy3 =>
      intro w hSw
      try dsimp only at hSw
      refine exec_load_part 30 (.tmp 40) ?_ (q + 1) 10 ?_ HX _ (HPN.out _ hSw) Try.underlying30 rfl HIH.out.2
      · rfl
      · rfl
    try simp only [Act.put, List.getElem_toArray, List.getElem_cons_succ, List.getElem_cons_zero, List.setIfInBounds_toArray, List.set_cons_zero, List.set_cons_succ]
    refine AnyBut.one (i := 3) (by kernel_rfl) rfl (fun K hK => ?_)
    go_simp
    go_wp2_with fail
    refine (HCL.out wD HKD.out).mono ?_
    rintro e w6 ⟨r2, r3, t2, t3, rfl, hn⟩
    have HCN := Lib.hid hn
    have HF6 := Lib.hid (HFD.out.on hn.mp.kept)
    have HK6 := Lib.hid (HKD.out.trans hn.mp.kept)
    have HS6 : Hid ((fun w' => w'.heap[q + 1]? = some (.cells NX 37 (0, 0))) w6) := Lib.hid HF6.out.bx
    clear hn
    go_wp2
    refine hK.out _ _ (HS6.out) ?_
    clear hK K
    try simp only [Act.put, List.getElem_toArray, List.getElem_cons_succ, List.getElem_cons_zero, List.setIfInBounds_toArray, List.set_cons_zero, List.set_cons_succ]
    refine AnyBut.one (i := 4) (by kernel_rfl) rfl (fun K hK => ?_)
    refine step_store_row (by rfl) 37 (.tmp 4) (.tmp 39) (by rfl) (q + 1 + 1) NX (by rfl) (by rfl) 37 #[.string { data := #[] }, .slice none 0 0, .int .i64 0, .int .i64 0, .bool false, .int .i64 0, .int .i64 0, .int .i64 0, .int .u64 0, .int .u64 0, .int .i64 0, .int .u64 0, .int .i64 0, .slice none 0 0, .int .i64 0, .slice none 0 0, .int .i64 0] HF6.out.bz HIN.out.1 HIN.out.2.1 HIN.out.2.2 ?_
    have HKx : Hid (Kept (fun i => i = q + 1 + 1) w6 (w6.setRow (q + 1 + 1) NX)) := Lib.hid (setRow_keptW _ _ _)
    have HBx : Hid ((w6.setRow (q + 1 + 1) NX).heap[q + 1 + 1]? = some (.cells NX 37 (0, 0)) ∧ (w6.setRow (q + 1 + 1) NX).heap[q + 1 + 1 + 1]? = some (.cells #[.int .i64 0, .int .u64 0, .int .i64 0, .slice none 0 0, .int .i64 0, .slice none 0 0] 30 (0, 0))) := Lib.hid ⟨setRow_heap _ _ _ _ _ _ HF6.out.bz, HKx.out.same HF6.out.bh (by omega)⟩
    have HSx : Hid ((fun w' => w'.heap[q + 1]? = some (.cells NX 37 (0, 0))) (w6.setRow (q + 1 + 1) NX)) := Lib.hid (HKx.out.same HS6.out (by omega))
    refine hK.out _ _ (HSx.out) ?_
    clear hK K
    try simp only [Act.put, List.getElem_toArray, List.getElem_cons_succ, List.getElem_cons_zero]
    refine AnyBut.one (i := 5) (by kernel_rfl) rfl (fun K hK => ?_)
    refine step_store_row (by rfl) 30 (.tmp 5) (.tmp 42) (by rfl) (q + 1 + 1 + 1) (histA x.h (.slice r2 x.h.pl.length t2) (.slice r3 x.h.nl.length t3)) (by rfl) (by rfl) 30 #[.int .i64 0, .int .u64 0, .int .i64 0, .slice none 0 0, .int .i64 0, .slice none 0 0] HBx.out.2 hist_info rfl (histC_one ⟨rfl, rfl⟩) ?_
    have HKy : Hid (Kept (fun i => i = q + 1 + 1 + 1) (w6.setRow (q + 1 + 1) NX) ((w6.setRow (q + 1 + 1) NX).setRow (q + 1 + 1 + 1) (histA x.h (.slice r2 x.h.pl.length t2) (.slice r3 x.h.nl.length t3)))) := Lib.hid (setRow_keptW _ _ _)
    have HBy : Hid (((w6.setRow (q + 1 + 1) NX).setRow (q + 1 + 1 + 1) (histA x.h (.slice r2 x.h.pl.length t2) (.slice r3 x.h.nl.length t3))).heap[q + 1 + 1]? = some (.cells NX 37 (0, 0)) ∧ ((w6.setRow (q + 1 + 1) NX).setRow (q + 1 + 1 + 1) (histA x.h (.slice r2 x.h.pl.length t2) (.slice r3 x.h.nl.length t3))).heap[q + 1 + 1 + 1]? = some (.cells (histA x.h (.slice r2 x.h.pl.length t2) (.slice r3 x.h.nl.length t3)) 30 (0, 0))) := Lib.hid ⟨HKy.out.same HBx.out.1 (by omega), setRow_heap _ _ _ _ _ _ HBx.out.2⟩
    have HSy : Hid ((fun w' => w'.heap[q + 1]? = some (.cells NX 37 (0, 0))) ((w6.setRow (q + 1 + 1) NX).setRow (q + 1 + 1 + 1) (histA x.h (.slice r2 x.h.pl.length t2) (.slice r3 x.h.nl.length t3)))) := Lib.hid (HKy.out.same HSx.out (by omega))
    refine hK.out _ _ (HSy.out) ?_
    clear hK K
    try simp only [Act.put, List.getElem_toArray, List.getElem_cons_succ, List.getElem_cons_zero]
    refine AnyBut.done (by kernel_rfl) ?_
    go_wp2
    refine bodyPost_ret (results_cc Try.results64 _ _ (q + 1 + 1) (q + 1 + 1 + 1) 37 30 _ _ (0, 0) (0, 0) _ _ rfl HBy.out.1 Try.underlying37 rfl HIN.out.1 rfl HBy.out.2 Try.underlying30 rfl hist_info) rfl ?_
    have kF := (HK6.out.newer HKx.out (fun i e => by have := HGE.out; omega)).newer HKy.out (fun i e => by have := HGE.out; omega)
    have n0 := HCN.out.down (HNA.out.at_.kept.trans HKD.out)
    have n1 := n0.set HF6.out.bz (by decide) HQW.out.1 HKx.out
    have n2 := n1.set HBx.out.2 (by decide) HQW.out.2.1 HKy.out
    obtain ⟨wF, hwF⟩ : ∃ w', w' = ((w6.setRow (q + 1 + 1) NX).setRow (q + 1 + 1 + 1) (histA x.h (.slice r2 x.h.pl.length t2) (.slice r3 x.h.nl.length t3))) := ⟨_, rfl⟩
    rw [← hwF] at kF n2 ⊢
    refine ⟨_, _, _, rfl, ?_, ⟨r2, r3, t2, t3, rfl, rfl, n2⟩, kF⟩
    rw [HNX.out, HVS.out.1, HVS.out.2.1, HVS.out.2.2]
    exact GotP.parts (y := { x with flags := 4 }) (HNA.out.on kF) ⟨rfl, rfl⟩
  have HL0 := HLE.out hE
  rw [HL0] at HLV
  clear HL0 HLE
  subst hE
  rw [if_pos rfl, if_pos rfl]
  go_enter Try.func64, Try.ntmps64
  go_upto_region 1 with fail
  rw [← HW2.out.1, ← HW2.out.2]
  go_upto_region 7 with fail
  clear c2
  go_upto_region 8 with (first | (refine wpList_load_part rfl 30 (.tmp 29) rfl (q + 1) 10 rfl HX _ (HPX.out w2 HFB.out.bx) Try.underlying30 rfl HIH.out.2 ?_) | (refine wpList_load_part rfl 30 (.tmp 31) rfl q 6 rfl HS _ (HPS.out w2 HFB.out.bs) Try.underlying30 rfl HIH.out.1 ?_) | (go_at_call 87; refine (HSU.out w2 HK02.out).mono ?_; rintro e w3 ⟨R', E', hr, pv', nv', rfl, m1, m2⟩; obtain ⟨hr1, hr2⟩ := SubH.uniq HSG.out hr; subst hr1 hr2; clear hr; obtain ⟨d2, d3, e2, e3, rfl, rfl, hn⟩ := HN.of m1 m2; clear m1 m2; have HHN := Lib.hid hn; have HF3 := Lib.hid (HFB.out.on hn.mp.kept); have HK3 := Lib.hid (HK02.out.trans hn.mp.kept); clear hn; rw [histV_A]; obtain ⟨RA, hRA⟩ : ∃ a, a = histA R (.slice d2 R.pl.length e2) (.slice d3 R.nl.length e3) := ⟨_, rfl⟩; rw [← hRA]; have HRA := Lib.hid hRA; clear hRA; have HIR : Hid ((Try.prog.info? 30).map (·.size) = some RA.size ∧ RA.size = 6 ∧ RA.all (·.oneCell') = true) := Lib.hid (by rw [HRA.out]; exact ⟨hist_info, rfl, histC_one ⟨rfl, rfl⟩⟩)) | (refine wpList_store_box rfl 30 (.tmp 6) _ rfl w3 _ RA 30 rfl rfl rfl HIR.out.1 (by rw [HIR.out.2.1]; rfl) HIR.out.2.2 ?_; intro w4 hb4 k4; have HB4 := Lib.hid hb4; have HF4 := Lib.hid (HF3.out.on k4); have HK4 := Lib.hid (HK3.out.trans k4); have HHN4 := Lib.hid (HHN.out.on k4); clear hb4 k4))
  obtain ⟨g6, hg6⟩ : ∃ g, g = w3.heap.size := ⟨_, rfl⟩
  rw [← hg6] at HB4
  rw [← hg6]
  have HG6 : Hid (w.heap.size ≤ g6 ∧ q + 1 + 1 + 1 < g6) := Lib.hid (by have h1 := HK3.out.size; have h2 := (Array.getElem?_eq_some_iff.1 HF3.out.bh).1; omega)
  clear hg6
  clear HSU HSG HCL
  go_upto_region 12 with (first | (refine wpList_load_part rfl 30 (.tmp 44) rfl (q + 1) 10 rfl HX _ (HPX.out w4 HF4.out.bx) Try.underlying30 rfl HIH.out.2 ?_) | (refine wpList_load_part rfl 30 (.tmp 46) rfl q 6 rfl HS _ (HPS.out w4 HF4.out.bs) Try.underlying30 rfl HIH.out.1 ?_) | (go_at_call 44; refine (HLV.out w4 HK4.out).mono ?_; rintro e w5 ⟨p1, n1, p2, n2, rfl, m1, m2, m3, m4⟩; obtain ⟨d4, d5, e4, e5, rfl, rfl, hn⟩ := HN.of m1 m2; obtain ⟨d6, d7, e6, e7, rfl, rfl, hn'⟩ := HN.of m3 m4; clear m1 m2 m3 m4 hn'; have HXN := Lib.hid hn; have HF5 := Lib.hid (HF4.out.on hn.mp.kept); have HK5 := Lib.hid (HK4.out.trans hn.mp.kept); have HB5 := Lib.hid (hn.mp.kept.same HB4.out (fun x => x)); have HHN5 := Lib.hid (HHN4.out.on hn.mp.kept); clear hn; rw [histV_A, histV_A]; obtain ⟨XA, hXA⟩ : ∃ a, a = histA X (.slice d4 X.pl.length e4) (.slice d5 X.nl.length e5) := ⟨_, rfl⟩; obtain ⟨YA, hYA⟩ : ∃ a, a = histA Y (.slice d6 Y.pl.length e6) (.slice d7 Y.nl.length e7) := ⟨_, rfl⟩; rw [← hXA, ← hYA]; have HXA := Lib.hid hXA; have HIA : Hid ((Try.prog.info? 30).map (·.size) = some XA.size ∧ XA.size = 6 ∧ XA.all (·.oneCell') = true) := Lib.hid (by rw [hXA]; exact ⟨hist_info, rfl, histC_one ⟨rfl, rfl⟩⟩); have HIB : Hid ((Try.prog.info? 30).map (·.size) = some YA.size ∧ YA.size = 6 ∧ YA.all (·.oneCell') = true) := Lib.hid (by rw [hYA]; exact ⟨hist_info, rfl, histC_one ⟨rfl, rfl⟩⟩); clear hXA hYA; have HA : Hid (((w5.alloc (.cells #[.int .i64 0, .int .u64 0, .int .i64 0, .slice none 0 0, .int .i64 0, .slice none 0 0] 30)).alloc (.cells #[.int .i64 0, .int .u64 0, .int .i64 0, .slice none 0 0, .int .i64 0, .slice none 0 0] 30)).heap[w5.heap.size]? = some (.cells #[.int .i64 0, .int .u64 0, .int .i64 0, .slice none 0 0, .int .i64 0, .slice none 0 0] 30 (0, 0)) ∧ ((w5.alloc (.cells #[.int .i64 0, .int .u64 0, .int .i64 0, .slice none 0 0, .int .i64 0, .slice none 0 0] 30)).alloc (.cells #[.int .i64 0, .int .u64 0, .int .i64 0, .slice none 0 0, .int .i64 0, .slice none 0 0] 30)).heap[w5.heap.size + 1]? = some (.cells #[.int .i64 0, .int .u64 0, .int .i64 0, .slice none 0 0, .int .i64 0, .slice none 0 0] 30 (0, 0)) ∧ Kept (fun _ => False) w5 ((w5.alloc (.cells #[.int .i64 0, .int .u64 0, .int .i64 0, .slice none 0 0, .int .i64 0, .slice none 0 0] 30)).alloc (.cells #[.int .i64 0, .int .u64 0, .int .i64 0, .slice none 0 0, .int .i64 0, .slice none 0 0] 30))) := Lib.hid ⟨((Kept.refl (fun _ => False) _).alloc _).same (heap_alloc_new w5 _) (fun x => x), box_second2 w5 _ _, ((Kept.refl _ _).alloc _).alloc _⟩) | (refine wpList_store_to rfl 30 (.tmp 8) _ rfl w5.heap.size XA rfl rfl 30 #[.int .i64 0, .int .u64 0, .int .i64 0, .slice none 0 0, .int .i64 0, .slice none 0 0] HA.out.1 HIA.out.1 (by rw [HIA.out.2.1]; rfl) HIA.out.2.2 ?_; intro w6 hb6 k6; have HB6 := Lib.hid hb6; have HK6 := Lib.hid k6; clear hb6 k6) | (refine wpList_store_to rfl 30 (.tmp 9) _ rfl (w5.heap.size + 1) YA rfl rfl 30 #[.int .i64 0, .int .u64 0, .int .i64 0, .slice none 0 0, .int .i64 0, .slice none 0 0] (HK6.out.same HA.out.2.1 (by omega)) HIB.out.1 (by rw [HIB.out.2.1]; rfl) HIB.out.2.2 ?_; intro w7 hb7 k7; have HK7 := Lib.hid k7; clear hb7 k7))
  have HK57 : Hid (Kept (fun _ => False) w5 w7) := Lib.hid ((HA.out.2.2.newer HK6.out (fun i e => by omega)).newer HK7.out (fun i e => by omega))
  obtain ⟨g8, hg8⟩ : ∃ g, g = w5.heap.size := ⟨_, rfl⟩
  have HB7 : Hid (w7.heap[g8]? = some (.cells XA 30 (0, 0))) := Lib.hid (by rw [hg8]; exact HK7.out.same HB6.out (by omega))
  rw [← hg8]
  have HG8 : Hid (q + 1 + 1 + 1 < g8) := Lib.hid (by have h2 := (Array.getElem?_eq_some_iff.1 HF5.out.bh).1; omega)
  clear hg8
  have HF7 := Lib.hid (HF5.out.on HK57.out)
  have HKw7 := Lib.hid (HK5.out.trans HK57.out)
  have HR7 := Lib.hid (HK57.out.same HB5.out (fun x => x))
  have HHN7 := Lib.hid (HHN5.out.on HK57.out)
  have HXN7 := Lib.hid (HXN.out.on HK57.out)
  clear HA HB6 HK6 HK7
  go_upto_region 13 with (first | (refine wpList_load_row rfl 30 (.tmp 6) rfl g6 rfl 30 _ (0, 0) _ HR7.out Try.underlying30 rfl HIR.out.1 ?_) | (refine wpList_store_mid rfl 30 (.tmp 53) _ rfl (q + 1) 10 RA rfl rfl (by rw [HIR.out.2.1]; exact box_there HF7.out.bx 10 6 (by rw [HIX.out.2.1]; decide)) HIR.out.1 HIR.out.2.2 ?_))
  obtain ⟨w8, hw8⟩ : ∃ w', w' = w7.setCells (q + 1) 10 RA.toList := ⟨_, rfl⟩
  rw [← hw8]
  have h8 := setCells6 HF7.out.bx 10 (.int .i64 R.sc) (.int .u64 (R.ze : Int)) (.int .i64 R.po) (.slice d2 R.pl.length e2) (.int .i64 R.no) (.slice d3 R.nl.length e3)
  rw [show [Value.int .i64 R.sc, .int .u64 (R.ze : Int), .int .i64 R.po, .slice d2 R.pl.length e2, .int .i64 R.no, .slice d3 R.nl.length e3] = RA.toList by rw [HRA.out]; rfl, ← hw8] at h8
  obtain ⟨NX, hNX⟩ : ∃ a, a = pntC { x with h := R } av (.slice d2 R.pl.length e2) (.slice d3 R.nl.length e3) := ⟨_, rfl⟩
  have HF8 : Hid (FB w8 q CS NX) := Lib.hid (HF7.out.out h8.2 (by rw [h8.1, hNX, HCX.out]; rfl))
  have HK78 := Lib.hid h8.2
  have HKw8 := Lib.hid (HKw7.out.newer h8.2 (fun i e => by have := HGE.out; omega))
  have HX8 := Lib.hid (h8.2.same HB7.out (by have := HG8.out; omega))
  have HIN : Hid ((Try.prog.info? 37).map (·.size) = some NX.size ∧ (#[.string { data := #[] }, .slice none 0 0, .int .i64 0, .int .i64 0, .bool false, .int .i64 0, .int .i64 0, .int .i64 0, .int .u64 0, .int .u64 0, .int .i64 0, .int .u64 0, .int .i64 0, .slice none 0 0, .int .i64 0, .slice none 0 0, .int .i64 0] : Array Value).size = NX.size ∧ NX.all (·.oneCell') = true) := Lib.hid (by rw [hNX]; exact ⟨point_info, rfl, pntC_one' ⟨HAV.out.1, rfl, rfl⟩⟩)
  have HNX := Lib.hid hNX
  clear hw8 h8 hNX
  obtain ⟨wD, hwd⟩ : ∃ w', w' = w8.drew := ⟨_, rfl⟩
  refine AnyBut.start (S := fun w' => w'.heap[q + 1]? = some (.cells NX 37 (0, 0)) ∧ w'.heap[g8]? = some (.cells XA 30 (0, 0))) (k := 4) (by kernel_rfl) ?_
  rw [← hwd]
  have HKD8 : Hid (Kept (fun _ => False) w8 wD) := Lib.hid (by rw [hwd]; exact (Kept.refl _ _).drew)
  have HKwD := Lib.hid (HKw8.out.trans HKD8.out)
  have HFD := Lib.hid (HF8.out.on HKD8.out)
  have HS0 : Hid ((fun w' => w'.heap[q + 1]? = some (.cells NX 37 (0, 0)) ∧ w'.heap[g8]? = some (.cells XA 30 (0, 0))) wD) := Lib.hid ⟨HFD.out.bx, HKD8.out.same HX8.out (fun x => x)⟩
  clear hwd
  refine AnyBut.takeS (i := 0) (v := ?v4) rfl (by kernel_rfl) (Nat.le_of_eq (by kernel_rfl)) (by kernel_rfl) (by kernel_rfl) (fun _ _ _ h => h) (HS0.out) (Or.inl ⟨by kernel_rfl, ?hy4⟩) ?r4
  case hy4 =>
    intro w hSw
    try dsimp only at hSw
    refine exec_load_row 37 (.tmp 3) ?_ (q + 1) ?_ 37 _ (0, 0) _ hSw.1 Try.underlying37 rfl HIN.out.1
    · rfl
    · rfl
  try simp only [Act.put, List.getElem_toArray, List.getElem_cons_zero, List.setIfInBounds_toArray, List.set_cons_zero, List.set_cons_succ]
  refine AnyBut.takeS (i := 1) (v := ?v5) rfl (by kernel_rfl) (Nat.le_of_eq (by kernel_rfl)) (by kernel_rfl) (by kernel_rfl) (fun _ _ _ h => h) (HS0.out) (Or.inl ⟨by kernel_rfl, ?hy5⟩) ?r5
  case hy5 =>
    intro w hSw
    try dsimp only at hSw
    refine exec_load_row 30 (.tmp 8) ?_ g8 ?_ 30 _ (0, 0) _ hSw.2 Try.underlying30 rfl HIA.out.1
    · rfl
    · rfl
  try simp only [Act.put, List.getElem_toArray, List.getElem_cons_succ, List.getElem_cons_zero, List.setIfInBounds_toArray, List.set_cons_zero, List.set_cons_succ]
  refine AnyBut.one (i := 2) (by kernel_rfl) rfl (fun K hK => ?_)
  refine step_store_row (by rfl) 37 (.tmp 4) (.tmp 54) (by rfl) (q + 1 + 1) NX (by rfl) (by rfl) 37 #[.string { data := #[] }, .slice none 0 0, .int .i64 0, .int .i64 0, .bool false, .int .i64 0, .int .i64 0, .int .i64 0, .int .u64 0, .int .u64 0, .int .i64 0, .int .u64 0, .int .i64 0, .slice none 0 0, .int .i64 0, .slice none 0 0, .int .i64 0] HFD.out.bz HIN.out.1 HIN.out.2.1 HIN.out.2.2 ?_
  have HKx : Hid (Kept (fun i => i = q + 1 + 1) wD (wD.setRow (q + 1 + 1) NX)) := Lib.hid (setRow_keptW _ _ _)
  have HBx : Hid ((wD.setRow (q + 1 + 1) NX).heap[q + 1 + 1]? = some (.cells NX 37 (0, 0)) ∧ (wD.setRow (q + 1 + 1) NX).heap[q + 1 + 1 + 1]? = some (.cells #[.int .i64 0, .int .u64 0, .int .i64 0, .slice none 0 0, .int .i64 0, .slice none 0 0] 30 (0, 0))) := Lib.hid ⟨setRow_heap _ _ _ _ _ _ HFD.out.bz, HKx.out.same HFD.out.bh (by omega)⟩
  have HSx : Hid ((fun w' => w'.heap[q + 1]? = some (.cells NX 37 (0, 0)) ∧ w'.heap[g8]? = some (.cells XA 30 (0, 0))) (wD.setRow (q + 1 + 1) NX)) := Lib.hid ⟨HKx.out.same HS0.out.1 (by omega), HKx.out.same HS0.out.2 (by have := HG8.out; omega)⟩
  refine hK.out _ _ (HSx.out) ?_
  clear hK K
  try simp only [Act.put, List.getElem_toArray, List.getElem_cons_succ, List.getElem_cons_zero]
  refine AnyBut.one (i := 3) (by kernel_rfl) rfl (fun K hK => ?_)
  refine step_store_row (by rfl) 30 (.tmp 5) (.tmp 55) (by rfl) (q + 1 + 1 + 1) XA (by rfl) (by rfl) 30 #[.int .i64 0, .int .u64 0, .int .i64 0, .slice none 0 0, .int .i64 0, .slice none 0 0] HBx.out.2 HIA.out.1 (by rw [HIA.out.2.1]; rfl) HIA.out.2.2 ?_
  have HKy : Hid (Kept (fun i => i = q + 1 + 1 + 1) (wD.setRow (q + 1 + 1) NX) ((wD.setRow (q + 1 + 1) NX).setRow (q + 1 + 1 + 1) XA)) := Lib.hid (setRow_keptW _ _ _)
  have HBy : Hid (((wD.setRow (q + 1 + 1) NX).setRow (q + 1 + 1 + 1) XA).heap[q + 1 + 1]? = some (.cells NX 37 (0, 0)) ∧ ((wD.setRow (q + 1 + 1) NX).setRow (q + 1 + 1 + 1) XA).heap[q + 1 + 1 + 1]? = some (.cells XA 30 (0, 0))) := Lib.hid ⟨HKy.out.same HBx.out.1 (by omega), setRow_heap _ _ _ _ _ _ HBx.out.2⟩
  have HSy : Hid ((fun w' => w'.heap[q + 1]? = some (.cells NX 37 (0, 0)) ∧ w'.heap[g8]? = some (.cells XA 30 (0, 0))) ((wD.setRow (q + 1 + 1) NX).setRow (q + 1 + 1 + 1) XA)) := Lib.hid ⟨HKy.out.same HSx.out.1 (by omega), HKy.out.same HSx.out.2 (by have := HG8.out; omega)⟩
  refine hK.out _ _ (HSy.out) ?_
  clear hK K
  try simp only [Act.put, List.getElem_toArray, List.getElem_cons_succ, List.getElem_cons_zero]
  refine AnyBut.done (by kernel_rfl) ?_
  go_wp2
  refine bodyPost_ret (results_cc Try.results64 _ _ (q + 1 + 1) (q + 1 + 1 + 1) 37 30 _ _ (0, 0) (0, 0) _ _ rfl HBy.out.1 Try.underlying37 rfl HIN.out.1 rfl HBy.out.2 Try.underlying30 rfl HIA.out.1) rfl ?_
  have kF := (HKwD.out.newer HKx.out (fun i e => by have := HGE.out; omega)).newer HKy.out (fun i e => by have := HGE.out; omega)
  have up : ∀ {h : HistV} {a b : Option Addr} {c d : Nat}, HN W w7 h a b c d → HN W ((wD.setRow (q + 1 + 1) NX).setRow (q + 1 + 1 + 1) XA) h a b c d := fun m => (((m.set HF7.out.bx (by decide) HQW.out.2.2 HK78.out).on HKD8.out).set HFD.out.bz (by decide) HQW.out.1 HKx.out).set HBx.out.2 (by decide) HQW.out.2.1 HKy.out
  have n1 := up (HHN7.out.down (HNA.out.at_.kept.trans HK02.out))
  have n2 := up (HXN7.out.down (HNA.out.at_.kept.trans HK4.out))
  obtain ⟨wF, hwF⟩ : ∃ w', w' = ((wD.setRow (q + 1 + 1) NX).setRow (q + 1 + 1 + 1) XA) := ⟨_, rfl⟩
  rw [← hwF] at kF n1 n2 ⊢
  rw [HXA.out]; refine ⟨_, _, _, rfl, ⟨a1, d2, d3, c1, e2, e3, by rw [HNX.out, HVS.out.1]; rfl, ⟨HNA.out.at_.on kF, n1.mp, n1.mn⟩⟩, ⟨d4, d5, e4, e5, rfl, rfl, n2⟩, kF⟩
end Go.Proofs.Ytiiibhdohlpodaa

