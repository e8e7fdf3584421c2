/- Texts put together: what the theorem stands on. -/
import Derived.Test.YtiiibhdohlpodaaZz6
import Derived.Test.YtiiibhdohlpodaaZz11
import Derived.Test.YtiiibhdohlpodaaZz12
import Derived.Test.YtiiibhdohlpodaaZz14

namespace Go.Proofs.Ytiiibhdohlpodaa
open Go.RowKit
attribute [local go_sem ↓] Go.wp_at_zero Go.wp_at_succ
/-- A state of a point, with that histogram. -/
def stH (f : Pnt) (H : HistV) : StV := ⟨true, f.start, f.time, f.whole, f.re, f.im, H⟩
theorem stD_eq (s : StV) (f : Pnt) : stD s f = stH f (if movedI s f = 0 then lessH s f else f.h) := rfl
/-- The boxes of Next: the state that is to be, the answer; what they lead to is new. -/
structure ND (V W w : World) (g10 g11 : Nat) (NS OX : Array Value) (x : Pnt) (a1 a2 a3 : Option Addr) (c1 c2 c3 : Nat) (H : HistV) (tp tn : Value) : Prop where
  k : Kept (fun _ => False) W w
  bn : w.heap[g10]? = some (.cells NS 32 (0, 0))
  bo : w.heap[g11]? = some (.cells OX 37 (0, 0))
  lt : W.heap.size ≤ g10 ∧ W.heap.size ≤ g11 ∧ g10 ≠ g11
  new : NewP W w x a1 a2 a3 c1 c2 c3
  st : StN V w H tp tn
  vw : V.heap.size ≤ W.heap.size
section
variable {V W w w' : World} {g10 g11 : Nat} {NS OX NS' OX' : Array Value} {x y : Pnt} {a1 a2 a3 b1 b2 b3 : Option Addr} {c1 c2 c3 k1 k2 k3 : Nat} {H H' : HistV} {tp tn tp' tn' : Value}
theorem ND.on (h : ND V W w g10 g11 NS OX x a1 a2 a3 c1 c2 c3 H tp tn) (k : Kept (fun _ => False) w w') : ND V W w' g10 g11 NS OX x a1 a2 a3 c1 c2 c3 H tp tn := ⟨h.k.trans k, k.same h.bn (fun x => x), k.same h.bo (fun x => x), h.lt, h.new.on k, h.st.on k, h.vw⟩
theorem ND.out (h : ND V W w g10 g11 NS OX x a1 a2 a3 c1 c2 c3 H tp tn) (kk : Kept (fun i => i = g11) w w') (hb : w'.heap[g11]? = some (.cells OX' 37 (0, 0))) : ND V W w' g10 g11 NS OX' x a1 a2 a3 c1 c2 c3 H tp tn :=
  ⟨h.k.newer kk (fun _ e => by rw [e]; exact h.lt.2.1), kk.same h.bn h.lt.2.2, hb, h.lt, h.new.set h.bo (by decide) (by decide) h.lt.2.1 kk, h.st.set h.bo (by decide) (by have := h.vw; have := h.lt; omega) kk, h.vw⟩
theorem ND.over (h : ND V W w g10 g11 NS OX x a1 a2 a3 c1 c2 c3 H tp tn) (n : NewP W w y b1 b2 b3 k1 k2 k3) (t : StN V w H' tp' tn') (kk : Kept (fun i => i = g11) w w') (hb : w'.heap[g11]? = some (.cells OX' 37 (0, 0))) : ND V W w' g10 g11 NS OX' y b1 b2 b3 k1 k2 k3 H' tp' tn' :=
  ⟨h.k.newer kk (fun _ e => by rw [e]; exact h.lt.2.1), kk.same h.bn h.lt.2.2, hb, h.lt, n.set h.bo (by decide) (by decide) h.lt.2.1 kk, t.set h.bo (by decide) (by have := h.vw; have := h.lt; omega) kk, h.vw⟩
theorem ND.next (h : ND V W w g10 g11 NS OX x a1 a2 a3 c1 c2 c3 H tp tn) (kk : Kept (fun i => i = g10) w w') (hb : w'.heap[g10]? = some (.cells NS' 32 (0, 0))) : ND V W w' g10 g11 NS' OX x a1 a2 a3 c1 c2 c3 H tp tn :=
  ⟨h.k.newer kk (fun _ e => by rw [e]; exact h.lt.1), hb, kk.same h.bo (fun e => h.lt.2.2 e.symm), h.lt, h.new.set h.bn (by decide) (by decide) h.lt.1 kk, h.st.set h.bn (by decide) (by have := h.vw; have := h.lt; omega) kk, h.vw⟩
theorem ND.put (h : ND V W w g10 g11 NS OX x a1 a2 a3 c1 c2 c3 H tp tn) (i : Nat) (v : Value) (e : OX.setIfInBounds i v = OX') : ND V W (w.setCell ⟨g11, i, none⟩ v) g10 g11 NS OX' x a1 a2 a3 c1 c2 c3 H tp tn :=
  h.out ((Kept.refl (fun k => k = g11) w).setCell (p := ⟨g11, i, none⟩) (fun _ => rfl) _) (by rw [← e]; exact heap_setCell_same _ _ i _ _ _ h.bo)
end
theorem lessF_parts (s : StV) (x : Pnt) : (lessF s x).L = x.L ∧ (lessF s x).h = x.h := by
  unfold lessF
  split
  · exact ⟨rfl, rfl⟩
  · split <;> exact ⟨rfl, rfl⟩
theorem lessD_any (s : StV) (sp sn : Value) (x : Pnt) (a1 a2 a3 : Option Addr) (c1 c2 c3 : Nat) (W w : World) (n : NewP W w x a1 a2 a3 c1 c2 c3) (hk : x.kind = 1 ∨ x.kind = 2 ∨ x.kind = 4 ∨ x.kind = 5) (hs : HistIn w s.h sp sn) (ho : x.h.ok) (ls1 : s.h.pl.length ≤ 1000000) (ls2 : s.h.nl.length ≤ 1000000) (lx1 : x.h.pl.length ≤ 1000000) (lx2 : x.h.nl.length ≤ 1000000)
    (hs1 : U64I s.re) (hs2 : U64I s.im) (hx1 : U64I x.re) (hx2 : U64I x.im) :
    Calls Try.prog 64 #[.agg (stC s sp sn), .agg (pntC x (.slice a1 x.L.length c1) (.slice a2 x.h.pl.length c2) (.slice a3 x.h.nl.length c3))] w fun e w' => ∃ v tp tn, e = .returned (.tuple #[v, .agg (histA (lessH s x) tp tn)]) ∧ GotP W w' (lessA s x) v ∧ StN W w' (lessH s x) tp tn ∧ Kept (fun _ => False) w w' := by
  have flat : ∀ y : Pnt, lessA s x = y → x.kind ≠ 4 → y.L = x.L ∧ y.h = x.h → ∀ w', Kept (fun _ => False) w w' → ∃ v tp tn, (Ending.returned (.tuple #[.agg (pntC y (.slice a1 x.L.length c1) (.slice a2 x.h.pl.length c2) (.slice a3 x.h.nl.length c3)), .agg #[.int .i64 x.h.sc, .int .u64 (x.h.ze : Int), .int .i64 x.h.po, .slice a2 x.h.pl.length c2, .int .i64 x.h.no, .slice a3 x.h.nl.length c3]])) = .returned (.tuple #[v, .agg (histA (lessH s x) tp tn)]) ∧ GotP W w' (lessA s x) v ∧ StN W w' (lessH s x) tp tn ∧ Kept (fun _ => False) w w' := by
    intro y hy h4 hp w' k
    have hh : lessH s x = x.h := by unfold lessH; rw [if_neg (fun e => h4 e.1)]
    rw [hy, hh]
    exact ⟨_, _, _, rfl, GotP.parts (n.on k) hp, ⟨a2, a3, c2, c3, rfl, rfl, ⟨n.mp.on k, n.mn.on k⟩⟩, k⟩
  rcases hk with hk | hk | hk | hk
  · refine (lessP_any s sp sn x _ _ _ w (ones_slices _ _ _ _ _ _ _ _ _) hk).mono ?_
    rintro e w' ⟨rfl, k⟩
    exact flat _ (by unfold lessA; rw [if_pos hk]) (by omega) (lessW_parts s x) w' k
  · refine (less2_any s sp sn x _ _ _ w (ones_slices _ _ _ _ _ _ _ _ _) hk hs1 hs2 hx1 hx2).mono ?_
    rintro e w' ⟨rfl, k⟩
    exact flat _ (by unfold lessA; rw [if_neg (by omega), if_neg (by omega)]) (by omega) (lessF_parts s x) w' k
  · exact less4_any s sp sn x a1 a2 a3 c1 c2 c3 W w n hk hs ho ls1 ls2 lx1 lx2
  · refine (less5_any s sp sn x _ _ _ w (ones_slices _ _ _ _ _ _ _ _ _) hk hs1 hs2 hx1 hx2).mono ?_
    rintro e w' ⟨rfl, k⟩
    exact flat _ (by unfold lessA; rw [if_neg (by omega), if_neg (by omega)]) (by omega) (lessF_parts s x) w' k
theorem takenF_light {x : Pnt} {t most : Int} (hok : x.ok) (hli : x.light) (h : (takenF x t most).2 = 0) : (takenF x t most).1.light := by
  obtain ⟨_, hc⟩ := takenF_zero h
  rcases hc with ⟨_, f0, e⟩ | ⟨_, e⟩
  · obtain ⟨_, _, _, _, er, _, _⟩ := fitG_right hok.h f0
    have he := err_light er
    have h1 := (sideE_zero he.2.1).1
    have h2 := (sideE_zero he.2.2.1).1
    rw [e]
    exact ⟨hli.name, hli.len, hli.sh, by show (fitG x.h most).1.pl.length ≤ 1000; omega, by show (fitG x.h most).1.nl.length ≤ 1000; omega⟩
  · rw [e]; exact hli
set_option maxHeartbeats 4000000 in
set_option maxRecDepth 100000 in
theorem nextD_any (s : StV) (sp sn : Value) (x : Pnt) (aa pa na : Option Addr) (ac pc nc : Nat) (most : Int) (w : World) (ha : PntAt w x aa ac (.slice pa x.h.pl.length pc) (.slice na x.h.nl.length nc)) (hok : x.ok) (hli : x.light)
    (hh : HistIn w s.h sp sn) (ls1 : s.h.pl.length ≤ 1000000) (ls2 : s.h.nl.length ≤ 1000000) (hs1 : U64I s.re) (hs2 : U64I s.im) :
    Calls Try.prog 33 #[.agg (stC s sp sn), pntV x (.slice aa x.L.length ac) (.slice pa x.h.pl.length pc) (.slice na x.h.nl.length nc), .int .i64 most] w fun e w' =>
      ∃ tp tn v, e = .returned (.tuple #[.agg (stC (nextDS s x most) tp tn), v, .int .i64 (stepD s x most)]) ∧ StN w w' (nextDS s x most).h tp tn ∧ GotP w w' (nextDP s x most) v := by
  obtain ⟨CS, hCS⟩ : ∃ a, a = stC s sp sn := ⟨_, rfl⟩
  obtain ⟨CX, hCX⟩ : ∃ a, a = pntC x (.slice aa x.L.length ac) (.slice pa x.h.pl.length pc) (.slice na x.h.nl.length nc) := ⟨_, rfl⟩
  have hvx : pntV x (.slice aa x.L.length ac) (.slice pa x.h.pl.length pc) (.slice na x.h.nl.length nc) = .agg CX := by rw [hCX]; rfl
  rw [← hCS]
  have HIS : Hid ((Try.prog.info? 32).map (·.size) = some CS.size) := Lib.hid (state_info.trans (by rw [hCS]; rfl))
  have HIX : Hid ((Try.prog.info? 37).map (·.size) = some CX.size) := Lib.hid (point_info.trans (by rw [hCX]; rfl))
  have HSX : Hid (CX.size = 17) := Lib.hid (by rw [hCX]; rfl)
  have HCS := Lib.hid hCS
  have HHS := Lib.hid hh
  have HLS := Lib.hid (And.intro ls1 ls2)
  have HU := Lib.hid (And.intro hs1 hs2)
  obtain ⟨q, hq⟩ : ∃ q, q = w.heap.size := ⟨_, rfl⟩
  obtain ⟨w2, hw2⟩ : ∃ w2, w2 = (((w.alloc (.cells CS 32)).alloc (.cells CX 37)).alloc (.cells #[.bool false, .int .i64 0, .int .i64 0, .int .i64 0, .int .u64 0, .int .u64 0, .int .i64 0, .int .u64 0, .int .i64 0, .slice none 0 0, .int .i64 0, .slice none 0 0] 32)).alloc (.cells #[.string { data := #[] }, .slice none 0 0, .int .i64 0, .int .i64 0, .bool false, .int .i64 0, .int .i64 0, .int .i64 0, .int .u64 0, .int .u64 0, .int .i64 0, .int .u64 0, .int .i64 0, .slice none 0 0, .int .i64 0, .slice none 0 0, .int .i64 0] 37) := ⟨_, rfl⟩
  have k2 : Kept (fun _ => False) w w2 := by rw [hw2]; exact ((((Kept.refl _ _).alloc _).alloc _).alloc _).alloc _
  have hb : w2.heap[q]? = some (.cells CS 32 (0, 0)) ∧ w2.heap[q + 1]? = some (.cells CX 37 (0, 0)) ∧ w2.heap[q + 1 + 1]? = some (.cells #[.bool false, .int .i64 0, .int .i64 0, .int .i64 0, .int .u64 0, .int .u64 0, .int .i64 0, .int .u64 0, .int .i64 0, .slice none 0 0, .int .i64 0, .slice none 0 0] 32 (0, 0)) ∧ w2.heap[q + 1 + 1 + 1]? = some (.cells #[.string { data := #[] }, .slice none 0 0, .int .i64 0, .int .i64 0, .bool false, .int .i64 0, .int .i64 0, .int .i64 0, .int .u64 0, .int .u64 0, .int .i64 0, .int .u64 0, .int .i64 0, .slice none 0 0, .int .i64 0, .slice none 0 0, .int .i64 0] 37 (0, 0)) := by rw [hw2, hq]; exact alloc4 w _ _ _ _
  have HW2 := Lib.hid (And.intro hw2 hq)
  have HK02 := Lib.hid k2
  have HGE : Hid (w.heap.size ≤ q) := Lib.hid (by omega)
  have HB := Lib.hid hb
  have HBX : Hid (∀ w', Kept (fun _ => False) w2 w' → w'.heap[q]? = some (.cells CS 32 (0, 0)) ∧ w'.heap[q + 1]? = some (.cells CX 37 (0, 0)) ∧ w'.heap[q + 1 + 1]? = some (.cells #[.bool false, .int .i64 0, .int .i64 0, .int .i64 0, .int .u64 0, .int .u64 0, .int .i64 0, .int .u64 0, .int .i64 0, .slice none 0 0, .int .i64 0, .slice none 0 0] 32 (0, 0)) ∧ w'.heap[q + 1 + 1 + 1]? = some (.cells #[.string { data := #[] }, .slice none 0 0, .int .i64 0, .int .i64 0, .bool false, .int .i64 0, .int .i64 0, .int .i64 0, .int .u64 0, .int .u64 0, .int .i64 0, .int .u64 0, .int .i64 0, .slice none 0 0, .int .i64 0, .slice none 0 0, .int .i64 0] 37 (0, 0))) := Lib.hid (fun w' k => ⟨k.same HB.out.1 (fun x => x), k.same HB.out.2.1 (fun x => x), k.same HB.out.2.2.1 (fun x => x), k.same HB.out.2.2.2 (fun x => x)⟩)
  have HTK := Lib.hid (fun w' (k : Kept (fun _ => False) w2 w') => takenA_any x aa pa na ac pc nc 1 most w' (ha.on (k2.trans k)) hok hli)
  have HFR := Lib.hid (takenF_right (t := 1) (most := most) hok hli)
  have HFLR := Lib.hid (takenF_light (t := 1) (most := most) hok hli)
  rw [hvx] at HTK ⊢
  unfold nextDS nextDP stepD
  obtain ⟨f, hf⟩ : ∃ f, f = (takenF x 1 most).1 := ⟨_, rfl⟩
  obtain ⟨E, hE⟩ : ∃ f, f = (takenF x 1 most).2 := ⟨_, rfl⟩
  rw [← hf, ← hE] at HTK HFR HFLR
  rw [← hf, ← hE]
  clear hw2 hq k2 hb hCX hvx ha hok hli hCS hh ls1 ls2 hs1 hs2 hf hE
  by_cases hT : E = 0
  case neg =>
    rw [if_pos hT, if_neg (by omega), if_neg (by omega)]
    obtain ⟨n, hn⟩ : ∃ n : Int, n = ((E : Nat) : Int) := ⟨_, rfl⟩
    rw [← hn] at HTK
    rw [← hn]
    have q1 : (n == 0) = false := by rw [beq_eq_false_iff_ne]; omega
    have q2 : (n != 0) = true := by rw [bne_iff_ne]; omega
    clear hn hT HFR HFLR
    go_enter Try.func33, Try.ntmps33
    go_upto_region 1 with fail
    rw [← HW2.out.1, ← HW2.out.2]
    go_wp2_with (first
      | (refine wpList_load_row rfl 37 (.tmp 4) rfl (q + 1) rfl 37 _ (0, 0) _ HB.out.2.1 Try.underlying37 rfl HIX.out ?_)
      | fail)
    refine (HTK.out w2 (Kept.refl _ _)).mono ?_
    rintro e w3 ⟨v, rfl, g3⟩
    have HG3 := Lib.hid g3
    obtain ⟨CY, rfl, hi, hs, h1⟩ := g3.cells
    have HIY := Lib.hid hi
    have HSY := Lib.hid (And.intro hs h1)
    have HK3 := Lib.hid g3.kept
    clear g3 hi hs h1
    go_upto_region 2 with (refine wpList_store_to rfl 37 (.tmp 4) _ rfl (q + 1) CY rfl rfl 37 CX (HBX.out w3 HK3.out).2.1 HIY.out (by rw [HSX.out, HSY.out.1]) HSY.out.2 ?_; intro w4 hb4 k4; have HB4 : Hid (∀ w', Kept (fun _ => False) w4 w' → w'.heap[q]? = some (.cells CS 32 (0, 0)) ∧ w'.heap[q + 1]? = some (.cells CY 37 (0, 0)) ∧ w'.heap[q + 1 + 1]? = some (.cells #[.bool false, .int .i64 0, .int .i64 0, .int .i64 0, .int .u64 0, .int .u64 0, .int .i64 0, .int .u64 0, .int .i64 0, .slice none 0 0, .int .i64 0, .slice none 0 0] 32 (0, 0)) ∧ w'.heap[q + 1 + 1 + 1]? = some (.cells #[.string { data := #[] }, .slice none 0 0, .int .i64 0, .int .i64 0, .bool false, .int .i64 0, .int .i64 0, .int .i64 0, .int .u64 0, .int .u64 0, .int .i64 0, .int .u64 0, .int .i64 0, .slice none 0 0, .int .i64 0, .slice none 0 0, .int .i64 0] 37 (0, 0))) := Lib.hid (fun w' k => ⟨k.same (k4.same (HBX.out w3 HK3.out).1 (by omega)) (fun x => x), k.same hb4 (fun x => x), k.same (k4.same (HBX.out w3 HK3.out).2.2.1 (by omega)) (fun x => x), k.same (k4.same (HBX.out w3 HK3.out).2.2.2 (by omega)) (fun x => x)⟩); have HK04 := Lib.hid ((HK02.out.trans HK3.out).newer k4 (fun i e => by have := HGE.out; omega)); clear hb4 k4)
    go_wp2_with (first
      | (refine wpList_store_row rfl 32 (.tmp 6) _ rfl (q + 1 + 1) #[.bool false, .int .i64 0, .int .i64 0, .int .i64 0, .int .u64 0, .int .u64 0, .int .i64 0, .int .u64 0, .int .i64 0, .slice none 0 0, .int .i64 0, .slice none 0 0] rfl rfl 32 _ (HB4.out w4 (Kept.refl _ _)).2.2.1 state_info rfl (stC_one (s := zeroSt) ⟨rfl, rfl⟩) ?_)
      | (refine wpList_store_row rfl 37 (.tmp 7) _ rfl (q + 1 + 1 + 1) #[.string { data := #[] }, .slice none 0 0, .int .i64 0, .int .i64 0, .bool false, .int .i64 0, .int .i64 0, .int .i64 0, .int .u64 0, .int .u64 0, .int .i64 0, .int .u64 0, .int .i64 0, .slice none 0 0, .int .i64 0, .slice none 0 0, .int .i64 0] rfl rfl 37 _ ((setRow_keptW _ _ _).same (HB4.out w4 (Kept.refl _ _)).2.2.2 (by omega)) point_info rfl (pntC_one' (x := zeroPt) (ones_slices _ _ _ _ _ _ _ _ _)) ?_)
      | fail)
    have kz1 : Kept (fun i => i = q + 1 + 1) w4 (w4.setRow (q + 1 + 1) #[.bool false, .int .i64 0, .int .i64 0, .int .i64 0, .int .u64 0, .int .u64 0, .int .i64 0, .int .u64 0, .int .i64 0, .slice none 0 0, .int .i64 0, .slice none 0 0]) := setRow_keptW _ _ _
    have kz2 : Kept (fun i => i = q + 1 + 1 + 1) (w4.setRow (q + 1 + 1) #[.bool false, .int .i64 0, .int .i64 0, .int .i64 0, .int .u64 0, .int .u64 0, .int .i64 0, .int .u64 0, .int .i64 0, .slice none 0 0, .int .i64 0, .slice none 0 0]) ((w4.setRow (q + 1 + 1) #[.bool false, .int .i64 0, .int .i64 0, .int .i64 0, .int .u64 0, .int .u64 0, .int .i64 0, .int .u64 0, .int .i64 0, .slice none 0 0, .int .i64 0, .slice none 0 0]).setRow (q + 1 + 1 + 1) #[.string { data := #[] }, .slice none 0 0, .int .i64 0, .int .i64 0, .bool false, .int .i64 0, .int .i64 0, .int .i64 0, .int .u64 0, .int .u64 0, .int .i64 0, .int .u64 0, .int .i64 0, .slice none 0 0, .int .i64 0, .slice none 0 0, .int .i64 0]) := setRow_keptW _ _ _
    refine bodyPost_ret (results_cct Try.results33 _ _ (q + 1 + 1) (q + 1 + 1 + 1) 32 37 _ _ (0, 0) (0, 0) _ _ rfl (kz2.same (setRow_heap _ _ _ _ _ _ (HB4.out w4 (Kept.refl _ _)).2.2.1) (by omega)) Try.underlying32 rfl state_info rfl (setRow_heap _ _ _ _ _ _ (kz1.same (HB4.out w4 (Kept.refl _ _)).2.2.2 (by omega))) Try.underlying37 rfl point_info) rfl ?_
    have kz3 := ((HK04.out.trans (Kept.refl _ _)).newer kz1 (fun i e => by have := HGE.out; omega)).newer kz2 (fun i e => by have := HGE.out; omega)
    exact ⟨.slice none 0 0, .slice none 0 0, _, rfl, StN.nil kz3, GotP.zero kz3⟩
  subst hT
  rw [if_neg (show ¬ ((0 : Nat) ≠ 0) by decide)]
  have HFO := Lib.hid (HFR.out rfl)
  have HFL := Lib.hid (HFLR.out rfl)
  clear HFLR
  clear HFR
  have HLT := Lib.hid (fun av pv nv w => late_any s sp sn f av pv nv w)
  have HMV := Lib.hid (fun av pv nv w => moved_any s sp sn f av pv nv w)
  rw [← HCS.out] at HLT HMV
  cases hsm : s.some with
  | false =>
    rw [if_neg (show ¬ (false = true) by decide), if_pos (show (0 : Int) = 0 from rfl), if_pos (show (0 : Int) = 0 from rfl)]
    go_enter Try.func33, Try.ntmps33
    go_upto_region 1 with fail
    rw [← HW2.out.1, ← HW2.out.2]
    go_wp2_with (first
      | (refine wpList_load_row rfl 37 (.tmp 4) rfl (q + 1) rfl 37 _ (0, 0) _ HB.out.2.1 Try.underlying37 rfl HIX.out ?_)
      | fail)
    refine (HTK.out w2 (Kept.refl _ _)).mono ?_
    rintro e w3 ⟨v, rfl, g3⟩
    have HG3 := Lib.hid g3
    obtain ⟨CY, rfl, hi, hs, h1⟩ := g3.cells
    have HIY := Lib.hid hi
    have HSY := Lib.hid (And.intro hs h1)
    have HK3 := Lib.hid g3.kept
    clear g3 hi hs h1
    go_upto_region 2 with (refine wpList_store_to rfl 37 (.tmp 4) _ rfl (q + 1) CY rfl rfl 37 CX (HBX.out w3 HK3.out).2.1 HIY.out (by rw [HSX.out, HSY.out.1]) HSY.out.2 ?_; intro w4 hb4 k4; have HB4 : Hid (∀ w', Kept (fun _ => False) w4 w' → w'.heap[q]? = some (.cells CS 32 (0, 0)) ∧ w'.heap[q + 1]? = some (.cells CY 37 (0, 0)) ∧ w'.heap[q + 1 + 1]? = some (.cells #[.bool false, .int .i64 0, .int .i64 0, .int .i64 0, .int .u64 0, .int .u64 0, .int .i64 0, .int .u64 0, .int .i64 0, .slice none 0 0, .int .i64 0, .slice none 0 0] 32 (0, 0)) ∧ w'.heap[q + 1 + 1 + 1]? = some (.cells #[.string { data := #[] }, .slice none 0 0, .int .i64 0, .int .i64 0, .bool false, .int .i64 0, .int .i64 0, .int .i64 0, .int .u64 0, .int .u64 0, .int .i64 0, .int .u64 0, .int .i64 0, .slice none 0 0, .int .i64 0, .slice none 0 0, .int .i64 0] 37 (0, 0))) := Lib.hid (fun w' k => ⟨k.same (k4.same (HBX.out w3 HK3.out).1 (by omega)) (fun x => x), k.same hb4 (fun x => x), k.same (k4.same (HBX.out w3 HK3.out).2.2.1 (by omega)) (fun x => x), k.same (k4.same (HBX.out w3 HK3.out).2.2.2 (by omega)) (fun x => x)⟩); have HK04 := Lib.hid ((HK02.out.trans HK3.out).newer k4 (fun i e => by have := HGE.out; omega)); have HN4 : Hid (GotP w w4 f (.agg CY)) := Lib.hid (by obtain ⟨a1, a2, a3, c1, c2, c3, e, n⟩ := HG3.out; exact ⟨a1, a2, a3, c1, c2, c3, e, (n.down HK02.out).set (HBX.out w3 HK3.out).2.1 (by decide) (by decide) (by have := HGE.out; omega) k4⟩); have s0 : w4.cell? ⟨q, 0, none⟩ = some (.bool false) := cell_rowZ 0 _ (HB4.out w4 (Kept.refl _ _)).1 (by rw [HCS.out, ← hsm]; rfl); clear hb4 k4)
    obtain ⟨a1, a2, a3, c1, c2, c3, hvy, n4⟩ := HN4.out
    have HCY : Hid (CY = pntC f (.slice a1 f.L.length c1) (.slice a2 f.h.pl.length c2) (.slice a3 f.h.nl.length c3)) := Lib.hid (by injection hvy)
    have HFN := Lib.hid n4
    clear hvy n4
    clear hsm
    have HKR : Hid (Kept (fun _ => False) w4 w4) := Lib.hid (Kept.refl _ _)
    go_upto_region 6 with fail
    clear s0
    have p5 : w4.cell? ⟨q + 1, 5, none⟩ = some (.int .i64 f.start) := cell_rowZ 5 _ (HB4.out w4 HKR.out).2.1 (by rw [HCY.out]; rfl)
    have p6 : w4.cell? ⟨q + 1, 6, none⟩ = some (.int .i64 f.time) := cell_rowZ 6 _ (HB4.out w4 HKR.out).2.1 (by rw [HCY.out]; rfl)
    have p7 : w4.cell? ⟨q + 1, 7, none⟩ = some (.int .i64 f.whole) := cell_rowZ 7 _ (HB4.out w4 HKR.out).2.1 (by rw [HCY.out]; rfl)
    have p8 : w4.cell? ⟨q + 1, 8, none⟩ = some (.int .u64 f.re) := cell_rowZ 8 _ (HB4.out w4 HKR.out).2.1 (by rw [HCY.out]; rfl)
    have p9 : w4.cell? ⟨q + 1, 9, none⟩ = some (.int .u64 f.im) := cell_rowZ 9 _ (HB4.out w4 HKR.out).2.1 (by rw [HCY.out]; rfl)
    have p10 : w4.cell? ⟨q + 1, 10, none⟩ = some (.int .i64 f.h.sc) := cell_rowZ 10 _ (HB4.out w4 HKR.out).2.1 (by rw [HCY.out]; rfl)
    have p11 : w4.cell? ⟨q + 1, 11, none⟩ = some (.int .u64 (f.h.ze : Int)) := cell_rowZ 11 _ (HB4.out w4 HKR.out).2.1 (by rw [HCY.out]; rfl)
    have p12 : w4.cell? ⟨q + 1, 12, none⟩ = some (.int .i64 f.h.po) := cell_rowZ 12 _ (HB4.out w4 HKR.out).2.1 (by rw [HCY.out]; rfl)
    have p13 : w4.cell? ⟨q + 1, 13, none⟩ = some (.slice a2 f.h.pl.length c2) := cell_rowZ 13 _ (HB4.out w4 HKR.out).2.1 (by rw [HCY.out]; rfl)
    have p14 : w4.cell? ⟨q + 1, 14, none⟩ = some (.int .i64 f.h.no) := cell_rowZ 14 _ (HB4.out w4 HKR.out).2.1 (by rw [HCY.out]; rfl)
    have p15 : w4.cell? ⟨q + 1, 15, none⟩ = some (.slice a3 f.h.nl.length c3) := cell_rowZ 15 _ (HB4.out w4 HKR.out).2.1 (by rw [HCY.out]; rfl)
    obtain ⟨g10, hg10⟩ : ∃ g, g = w4.heap.size := ⟨_, rfl⟩
    have HG10 := Lib.hid hg10
    clear hg10
    go_upto_region 7 with (refine wpList_store_box rfl 32 (.tmp 10) _ rfl w4 _ (stC (stH f f.h) (.slice a2 f.h.pl.length c2) (.slice a3 f.h.nl.length c3)) 32 rfl rfl rfl state_info rfl (stC_one ⟨rfl, rfl⟩) ?_; intro w6 hb6 k6; have HB6 : Hid (w6.heap[g10]? = some (.cells (stC (stH f f.h) (.slice a2 f.h.pl.length c2) (.slice a3 f.h.nl.length c3)) 32 (0, 0))) := Lib.hid (by rw [HG10.out]; exact hb6); have HK6 := Lib.hid (HKR.out.trans k6); clear hb6 k6)
    clear p5 p6 p7 p8 p9 p10 p11 p12 p13 p14 p15
    rw [← HG10.out]
    go_wp2_with (first
      | (refine wpList_load_row rfl 37 (.tmp 4) rfl (q + 1) rfl 37 _ (0, 0) _ (HB4.out w6 HK6.out).2.1 Try.underlying37 rfl HIY.out ?_)
      | fail)
    rw [HCY.out]
    have hpc := pClone_any f a1 a2 a3 c1 c2 c3 w6 (HFN.out.on HK6.out).pnt HFL.out
    unfold pntV at hpc
    refine hpc.mono ?_
    clear hpc
    rintro e w7 ⟨d1, e1, d2, e2, d3, e3, rfl, m1, m2, m3⟩
    rw [← HCY.out]
    have n7 : NewP w6 w7 f d1 d2 d3 e1 e2 e3 := ⟨m1, m2, m3⟩
    obtain ⟨OX, hOX⟩ : ∃ a, a = pntC f (.slice d1 f.L.length e1) (.slice d2 f.h.pl.length e2) (.slice d3 f.h.nl.length e3) := ⟨_, rfl⟩
    rw [← hOX]
    have HIO : Hid ((Try.prog.info? 37).map (·.size) = some OX.size ∧ OX.size = 17 ∧ OX.all (·.oneCell') = true) := Lib.hid (by rw [hOX]; exact ⟨point_info, rfl, pntC_one' (ones_slices _ _ _ _ _ _ _ _ _)⟩)
    have HN7 := Lib.hid n7
    have HOX := Lib.hid hOX
    obtain ⟨g11, hg11⟩ : ∃ g, g = w7.heap.size := ⟨_, rfl⟩
    have HG11 := Lib.hid hg11
    clear n7 m1 m2 m3 hOX hg11
    go_upto_region 8 with (refine wpList_store_box rfl 37 (.tmp 11) _ rfl w7 _ OX 37 rfl rfl rfl HIO.out.1 (by rw [HIO.out.2.1]; rfl) HIO.out.2.2 ?_; intro w8 hb8 k8; have HNB : Hid (ND w w4 w8 g10 g11 (stC (stH f f.h) (.slice a2 f.h.pl.length c2) (.slice a3 f.h.nl.length c3)) (pntC f (.slice d1 f.L.length e1) (.slice d2 f.h.pl.length e2) (.slice d3 f.h.nl.length e3)) f d1 d2 d3 e1 e2 e3 f.h (.slice a2 f.h.pl.length c2) (.slice a3 f.h.nl.length c3)) := Lib.hid ⟨(HK6.out.trans HN7.out.at_.kept).trans k8, k8.same (HN7.out.at_.kept.same HB6.out (fun x => x)) (fun x => x), by rw [← HOX.out, HG11.out]; exact hb8, ⟨by have := HG10.out; have := HKR.out.size; omega, by have := HG11.out; have := HK6.out.size; have := HN7.out.at_.kept.size; omega, fun e => by have h1 := (Array.getElem?_eq_some_iff.1 HB6.out).1; have h2 := HN7.out.at_.kept.size; have h3 := HG11.out; omega⟩, (HN7.out.down HK6.out).on k8, ⟨a2, a3, c2, c3, rfl, rfl, ⟨HFN.out.mp.on ((HK6.out.trans HN7.out.at_.kept).trans k8), HFN.out.mn.on ((HK6.out.trans HN7.out.at_.kept).trans k8)⟩⟩, HK04.out.size⟩; clear hb8 k8)
    rw [← HG11.out]
    clear HN7 HOX HIO HB6
    have c3' : w8.cell? ⟨g11, 3, none⟩ = some (.int .i64 f.temp) := cell_rowZ 3 _ HNB.out.bo rfl
    have f3' := free_of_rowZ 3 HNB.out.bo
    go_upto_region 9 with fail
    clear c3' f3'
    have HNC := Lib.hid (HNB.out.put 3 (.int .i64 2) (OX' := pntC { f with temp := 2 } (.slice d1 f.L.length e1) (.slice d2 f.h.pl.length e2) (.slice d3 f.h.nl.length e3)) rfl)
    clear HNB
    obtain ⟨w9, hw9⟩ : ∃ w', w' = w8.setCell ⟨g11, 3, none⟩ (.int .i64 2) := ⟨_, rfl⟩
    rw [← hw9] at HNC
    rw [← hw9]
    clear hw9
    go_wp2_with (first
      | (refine wpList_load_row rfl 32 (.tmp 3) rfl q rfl 32 _ (0, 0) _ (HB4.out w9 HNC.out.k).1 Try.underlying32 rfl HIS.out ?_)
      | (refine wpList_load_row rfl 37 (.tmp 4) rfl (q + 1) rfl 37 _ (0, 0) _ (HB4.out w9 HNC.out.k).2.1 Try.underlying37 rfl HIY.out ?_)
      | fail)
    rw [HCY.out]
    refine (HMV.out _ _ _ w9).mono ?_
    rintro e w10 ⟨rfl, k10⟩
    have HND := Lib.hid (HNC.out.on k10)
    clear k10 HNC
    rw [← HCY.out]
    obtain ⟨mv, hmv⟩ : ∃ m, m = movedI s f := ⟨_, rfl⟩
    rw [← hmv]
    have HMVE := Lib.hid hmv
    clear hmv
    have c16 : w10.cell? ⟨g11, 16, none⟩ = some (.int .i64 f.flags) := cell_rowZ 16 _ HND.out.bo rfl
    have f16 := free_of_rowZ 16 HND.out.bo
    go_upto_region 10 with fail
    clear c16 f16
    have HNE := Lib.hid (HND.out.put 16 (.int .i64 mv) (OX' := pntC { f with temp := 2, flags := mv } (.slice d1 f.L.length e1) (.slice d2 f.h.pl.length e2) (.slice d3 f.h.nl.length e3)) rfl)
    clear HND
    obtain ⟨w11, hw11⟩ : ∃ w', w' = w10.setCell ⟨g11, 16, none⟩ (.int .i64 mv) := ⟨_, rfl⟩
    rw [← hw11] at HNE
    rw [← hw11]
    clear hw11
    have c16 : w11.cell? ⟨g11, 16, none⟩ = some (.int .i64 mv) := cell_rowZ 16 _ HNE.out.bo rfl
    by_cases hm : mv = 0
    · subst hm
      have HOW : Hid (outD s f = lessA s { f with temp := 2, flags := 0, start := s.time }) := Lib.hid (by unfold outD; rw [if_pos HMVE.out.symm])
      have HOS : Hid (stD s f = stH f (lessH s f)) := Lib.hid (by rw [stD_eq, if_pos HMVE.out.symm])
      have s2 : w11.cell? ⟨q, 2, none⟩ = some (.int .i64 s.time) := cell_rowZ 2 _ (HB4.out w11 HNE.out.k).1 (by rw [HCS.out]; rfl)
      have c5' : w11.cell? ⟨g11, 5, none⟩ = some (.int .i64 f.start) := cell_rowZ 5 _ HNE.out.bo rfl
      have f5' := free_of_rowZ 5 HNE.out.bo
      go_upto_region 12 with fail
      clear s2 c5' f5' c16
      have HNF := Lib.hid (HNE.out.put 5 (.int .i64 s.time) (OX' := pntC { f with temp := 2, flags := 0, start := s.time } (.slice d1 f.L.length e1) (.slice d2 f.h.pl.length e2) (.slice d3 f.h.nl.length e3)) rfl)
      clear HNE
      obtain ⟨w12, hw12⟩ : ∃ w', w' = w11.setCell ⟨g11, 5, none⟩ (.int .i64 s.time) := ⟨_, rfl⟩
      rw [← hw12] at HNF
      rw [← hw12]
      clear hw12
      have hle := lessD_any s sp sn { f with temp := 2, flags := 0, start := s.time } d1 d2 d3 e1 e2 e3 w4 w12 ⟨HNF.out.new.at_, HNF.out.new.mp, HNF.out.new.mn⟩ HFO.out.kd ⟨HHS.out.at_.on (HK04.out.trans HNF.out.k), HHS.out.ok, HHS.out.cp, HHS.out.cn⟩ HFO.out.h HLS.out.1 HLS.out.2 HFO.out.lp HFO.out.ln HU.out.1 HU.out.2 HFO.out.re HFO.out.im
      rw [← HCS.out] at hle
      obtain ⟨OY, hOY⟩ : ∃ a, a = pntC { f with temp := 2, flags := 0, start := s.time } (.slice d1 f.L.length e1) (.slice d2 f.h.pl.length e2) (.slice d3 f.h.nl.length e3) := ⟨_, rfl⟩
      have HIO : Hid ((Try.prog.info? 37).map (·.size) = some OY.size ∧ OY.size = 17) := Lib.hid (by rw [hOY]; exact ⟨point_info, rfl⟩)
      rw [← hOY] at HNF
      rw [show pntC { f with temp := 2, flags := 0, start := s.time } (.slice d1 ({ f with temp := 2, flags := 0, start := s.time } : Pnt).L.length e1) (.slice d2 ({ f with temp := 2, flags := 0, start := s.time } : Pnt).h.pl.length e2) (.slice d3 ({ f with temp := 2, flags := 0, start := s.time } : Pnt).h.nl.length e3) = OY from hOY.symm] at hle
      have HLE := Lib.hid hle
      clear hle hOY
      obtain ⟨Y, hY⟩ : ∃ y : Pnt, y = lessA s { f with temp := 2, flags := 0, start := s.time } := ⟨_, rfl⟩
      rw [← hY] at HLE HOW
      clear hY
      rw [show lessH s { f with temp := 2, flags := 0, start := s.time } = lessH s f from rfl] at HLE
      obtain ⟨H, hH⟩ : ∃ h, h = lessH s f := ⟨_, rfl⟩
      rw [← hH] at HLE HOS
      clear hH
      go_wp2_with (first
        | (refine wpList_load_row rfl 32 (.tmp 3) rfl q rfl 32 _ (0, 0) _ (HB4.out w12 HNF.out.k).1 Try.underlying32 rfl HIS.out ?_)
        | (refine wpList_load_row rfl 37 (.tmp 11) rfl g11 rfl 37 _ (0, 0) _ HNF.out.bo Try.underlying37 rfl HIO.out.1 ?_)
        | fail)
      refine HLE.out.mono ?_
      rintro e w13 ⟨v, tp, tn, rfl, g13, st13, k13⟩
      have HNG := Lib.hid (HNF.out.on k13)
      obtain ⟨b1, b2, b3, k1, k2, k3, rfl, n13⟩ := g13
      have HN13 := Lib.hid n13
      have HT13 := Lib.hid (st13.down HK04.out)
      have HTO := Lib.hid st13.one
      unfold pntV
      obtain ⟨NX, hNX⟩ : ∃ a, a = pntC Y (.slice b1 Y.L.length k1) (.slice b2 Y.h.pl.length k2) (.slice b3 Y.h.nl.length k3) := ⟨_, rfl⟩
      rw [← hNX]
      have HIN : Hid ((Try.prog.info? 37).map (·.size) = some NX.size ∧ NX.size = 17 ∧ NX.all (·.oneCell') = true) := Lib.hid (by rw [hNX]; exact ⟨point_info, rfl, pntC_one' (ones_slices _ _ _ _ _ _ _ _ _)⟩)
      have HNX := Lib.hid hNX
      obtain ⟨HA, hHA⟩ : ∃ a, a = histA H tp tn := ⟨_, rfl⟩
      rw [← hHA]
      have HHA := Lib.hid hHA
      have HIH : Hid ((Try.prog.info? 30).map (·.size) = some HA.size ∧ HA.size = 6 ∧ HA.all (·.oneCell') = true) := Lib.hid (by rw [hHA]; exact ⟨hist_info, rfl, histC_one HTO.out⟩)
      clear k13 n13 st13 hNX hHA HNF HLE
      go_upto_region 13 with (first | (refine wpList_store_to rfl 37 (.tmp 11) _ rfl g11 NX rfl rfl 37 OY HNG.out.bo HIN.out.1 (by rw [HIO.out.2, HIN.out.2.1]) HIN.out.2.2 ?_; intro w14 hb14 k14; have HNH := Lib.hid (HNG.out.over HN13.out HT13.out k14 hb14); clear hb14 k14) | (refine wpList_store_mid rfl 30 (.tmp 64) _ rfl g10 6 HA rfl rfl (by rw [HIH.out.2.1]; exact box_there HNH.out.bn 6 6 (Nat.le_refl 12)) HIH.out.1 HIH.out.2.2 ?_))
      obtain ⟨w15, hw15⟩ : ∃ w', w' = w14.setCells g10 6 HA.toList := ⟨_, rfl⟩
      have h15 := setCells6 HNH.out.bn 6 (.int .i64 H.sc) (.int .u64 (H.ze : Int)) (.int .i64 H.po) tp (.int .i64 H.no) tn
      rw [show [Value.int .i64 H.sc, .int .u64 (H.ze : Int), .int .i64 H.po, tp, .int .i64 H.no, tn] = HA.toList by rw [HHA.out]; rfl, ← hw15] at h15
      have HNI : Hid (ND w w4 w15 g10 g11 (stC (stH f H) tp tn) NX Y b1 b2 b3 k1 k2 k3 H tp tn) := Lib.hid (HNH.out.next h15.2 (by rw [h15.1]; rfl))
      obtain ⟨wD, hwd⟩ : ∃ w', w' = w15.drew := ⟨_, rfl⟩
      first | rw [← hw15, ← hwd] | rw [← hw15] | skip
      have HNJ : Hid (ND w w4 wD g10 g11 (stC (stH f H) tp tn) NX Y b1 b2 b3 k1 k2 k3 H tp tn) := Lib.hid (by rw [hwd]; exact HNI.out.on (Kept.refl _ _).drew)
      clear hw15 h15 HNG HNH HNI
      have HS0 : Hid ((fun w' => w'.heap[g10]? = some (.cells (stC (stH f H) tp tn) 32 (0, 0)) ∧ w'.heap[g11]? = some (.cells NX 37 (0, 0))) (wD)) := Lib.hid ⟨HNJ.out.bn, HNJ.out.bo⟩
      refine AnyBut.start (S := fun w' => w'.heap[g10]? = some (.cells (stC (stH f H) tp tn) 32 (0, 0)) ∧ w'.heap[g11]? = some (.cells NX 37 (0, 0))) (k := 5) (by kernel_rfl) ?_
      first | rw [← hwd] | skip
      clear hwd
      refine AnyBut.takeS (i := 0) (v := ?v1) rfl (by kernel_rfl) (Nat.le_of_eq (by kernel_rfl)) (by kernel_rfl) (by kernel_rfl) (fun _ _ _ h => h) (HS0.out) (Or.inl ⟨by kernel_rfl, ?hy1⟩) ?r1
      case hy1 =>
        intro w hSw
        try dsimp only at hSw
        refine exec_load_row 32 (.tmp 10) ?_ g10 ?_ 32 _ (0, 0) _ hSw.1 Try.underlying32 rfl state_info
        · rfl
        · rfl
      try simp only [Act.put, List.getElem_toArray, List.getElem_cons_zero, List.setIfInBounds_toArray, List.set_cons_zero, List.set_cons_succ]
      refine AnyBut.takeS (i := 1) (v := ?v2) rfl (by kernel_rfl) (Nat.le_of_eq (by kernel_rfl)) (by kernel_rfl) (by kernel_rfl) (fun _ _ _ h => h) (HS0.out) (Or.inl ⟨by kernel_rfl, ?hy2⟩) ?r2
      case hy2 =>
        intro w hSw
        try dsimp only at hSw
        refine exec_load_row 37 (.tmp 11) ?_ g11 ?_ 37 _ (0, 0) _ hSw.2 Try.underlying37 rfl HIN.out.1
        · rfl
        · rfl
      try simp only [Act.put, List.getElem_toArray, List.getElem_cons_succ, List.getElem_cons_zero, List.setIfInBounds_toArray, List.set_cons_zero, List.set_cons_succ]
      refine AnyBut.one (i := 2) (by kernel_rfl) rfl (fun K hK => ?_)
      refine step_store_row (by rfl) 32 (.tmp 6) (.tmp 65) (by rfl) (q + 1 + 1) (stC (stH f H) tp tn) (by rfl) (by rfl) 32 #[.bool false, .int .i64 0, .int .i64 0, .int .i64 0, .int .u64 0, .int .u64 0, .int .i64 0, .int .u64 0, .int .i64 0, .slice none 0 0, .int .i64 0, .slice none 0 0] (HB4.out (wD) HNJ.out.k).2.2.1 state_info rfl (stC_one HNJ.out.st.one) ?_
      have HKx : Hid (Kept (fun i => i = q + 1 + 1) (wD) ((wD).setRow (q + 1 + 1) (stC (stH f H) tp tn))) := Lib.hid (setRow_keptW _ _ _)
      have HBx : Hid (((wD).setRow (q + 1 + 1) (stC (stH f H) tp tn)).heap[q + 1 + 1]? = some (.cells (stC (stH f H) tp tn) 32 (0, 0)) ∧ ((wD).setRow (q + 1 + 1) (stC (stH f H) tp tn)).heap[q + 1 + 1 + 1]? = some (.cells #[.string { data := #[] }, .slice none 0 0, .int .i64 0, .int .i64 0, .bool false, .int .i64 0, .int .i64 0, .int .i64 0, .int .u64 0, .int .u64 0, .int .i64 0, .int .u64 0, .int .i64 0, .slice none 0 0, .int .i64 0, .slice none 0 0, .int .i64 0] 37 (0, 0))) := Lib.hid ⟨setRow_heap _ _ _ _ _ _ (HB4.out (wD) HNJ.out.k).2.2.1, HKx.out.same (HB4.out (wD) HNJ.out.k).2.2.2 (by omega)⟩
      have HSx : Hid ((fun w' => w'.heap[g10]? = some (.cells (stC (stH f H) tp tn) 32 (0, 0)) ∧ w'.heap[g11]? = some (.cells NX 37 (0, 0))) ((wD).setRow (q + 1 + 1) (stC (stH f H) tp tn))) := Lib.hid ⟨HKx.out.same HS0.out.1 (by have := (Array.getElem?_eq_some_iff.1 (HB4.out w4 (Kept.refl _ _)).2.2.2).1; have := HNJ.out.lt; omega), HKx.out.same HS0.out.2 (by have := (Array.getElem?_eq_some_iff.1 (HB4.out w4 (Kept.refl _ _)).2.2.2).1; have := HNJ.out.lt; omega)⟩
      refine hK.out _ _ (HSx.out) ?_
      clear hK K
      try simp only [Act.put, List.getElem_toArray, List.getElem_cons_succ, List.getElem_cons_zero]
      refine AnyBut.one (i := 3) (by kernel_rfl) rfl (fun K hK => ?_)
      refine step_store_row (by rfl) 37 (.tmp 7) (.tmp 66) (by rfl) (q + 1 + 1 + 1) NX (by rfl) (by rfl) 37 #[.string { data := #[] }, .slice none 0 0, .int .i64 0, .int .i64 0, .bool false, .int .i64 0, .int .i64 0, .int .i64 0, .int .u64 0, .int .u64 0, .int .i64 0, .int .u64 0, .int .i64 0, .slice none 0 0, .int .i64 0, .slice none 0 0, .int .i64 0] HBx.out.2 HIN.out.1 (by rw [HIN.out.2.1]; rfl) HIN.out.2.2 ?_
      have HKy : Hid (Kept (fun i => i = q + 1 + 1 + 1) ((wD).setRow (q + 1 + 1) (stC (stH f H) tp tn)) (((wD).setRow (q + 1 + 1) (stC (stH f H) tp tn)).setRow (q + 1 + 1 + 1) NX)) := Lib.hid (setRow_keptW _ _ _)
      have HBy : Hid ((((wD).setRow (q + 1 + 1) (stC (stH f H) tp tn)).setRow (q + 1 + 1 + 1) NX).heap[q + 1 + 1]? = some (.cells (stC (stH f H) tp tn) 32 (0, 0)) ∧ (((wD).setRow (q + 1 + 1) (stC (stH f H) tp tn)).setRow (q + 1 + 1 + 1) NX).heap[q + 1 + 1 + 1]? = some (.cells NX 37 (0, 0))) := Lib.hid ⟨HKy.out.same HBx.out.1 (by omega), setRow_heap _ _ _ _ _ _ HBx.out.2⟩
      have HSy : Hid ((fun w' => w'.heap[g10]? = some (.cells (stC (stH f H) tp tn) 32 (0, 0)) ∧ w'.heap[g11]? = some (.cells NX 37 (0, 0))) (((wD).setRow (q + 1 + 1) (stC (stH f H) tp tn)).setRow (q + 1 + 1 + 1) NX)) := Lib.hid ⟨HKy.out.same HSx.out.1 (by have := (Array.getElem?_eq_some_iff.1 (HB4.out w4 (Kept.refl _ _)).2.2.2).1; have := HNJ.out.lt; omega), HKy.out.same HSx.out.2 (by have := (Array.getElem?_eq_some_iff.1 (HB4.out w4 (Kept.refl _ _)).2.2.2).1; have := HNJ.out.lt; omega)⟩
      refine hK.out _ _ (HSy.out) ?_
      clear hK K
      try simp only [Act.put, List.getElem_toArray, List.getElem_cons_succ, List.getElem_cons_zero]
      refine AnyBut.takeS (i := 4) (v := ?v3) rfl (by kernel_rfl) (Nat.le_of_eq (by kernel_rfl)) (by kernel_rfl) (by kernel_rfl) (fun _ _ _ h => h) (HSy.out) (Or.inl ⟨by kernel_rfl, ?hy3⟩) ?r3
      case hy3 =>
        intro w hSw
        try dsimp only at hSw
        go_simp
        try with_reducible rfl
      try simp only [Act.put, List.getElem_toArray, List.getElem_cons_succ, List.getElem_cons_zero, List.setIfInBounds_toArray, List.set_cons_zero, List.set_cons_succ]
      refine AnyBut.done (by kernel_rfl) ?_
      go_wp2
      refine bodyPost_ret (results_cct Try.results33 _ _ (q + 1 + 1) (q + 1 + 1 + 1) 32 37 _ _ (0, 0) (0, 0) _ _ rfl HBy.out.1 Try.underlying32 rfl state_info rfl HBy.out.2 Try.underlying37 rfl HIN.out.1) rfl ?_
      have n0 := HNJ.out.new.down HK04.out
      have n1 := n0.set (HB4.out (wD) HNJ.out.k).2.2.1 (by decide) (by decide) (by have := HGE.out; omega) HKx.out
      have hlast := n1.set HBx.out.2 (by decide) (by decide) (by have := HGE.out; omega) HKy.out
      have t1 := HNJ.out.st.set (HB4.out (wD) HNJ.out.k).2.2.1 (by decide) (by have := HGE.out; omega) HKx.out
      have t2 := t1.set HBx.out.2 (by decide) (by have := HGE.out; omega) HKy.out
      rw [HOW.out, HOS.out]
      refine ⟨_, _, _, rfl, t2, ?_⟩
      exact ⟨b1, b2, b3, k1, k2, k3, by rw [HNX.out]; rfl, hlast⟩
    · have HOW : Hid (outD s f = { f with temp := 2, flags := mv }) := Lib.hid (by unfold outD; rw [if_neg (by rw [← HMVE.out]; exact hm), ← HMVE.out])
      have HOS : Hid (stD s f = stH f f.h) := Lib.hid (by rw [stD_eq, if_neg (by rw [← HMVE.out]; exact hm)])
      have qm : (mv == 0) = false := by rw [beq_eq_false_iff_ne]; exact hm
      clear hm
      obtain ⟨NX, hNX⟩ : ∃ a, a = pntC { f with temp := 2, flags := mv } (.slice d1 f.L.length e1) (.slice d2 f.h.pl.length e2) (.slice d3 f.h.nl.length e3) := ⟨_, rfl⟩
      have HIN : Hid ((Try.prog.info? 37).map (·.size) = some NX.size ∧ NX.size = 17 ∧ NX.all (·.oneCell') = true) := Lib.hid (by rw [hNX]; exact ⟨point_info, rfl, pntC_one' (ones_slices _ _ _ _ _ _ _ _ _)⟩)
      rw [← hNX] at HNE
      have HNX := Lib.hid hNX
      clear hNX
      go_upto_region 13 with fail
      clear c16 qm
      obtain ⟨wD, hwd⟩ : ∃ w', w' = w11.drew := ⟨_, rfl⟩
      have HNJ : Hid (ND w w4 wD g10 g11 (stC (stH f f.h) (.slice a2 f.h.pl.length c2) (.slice a3 f.h.nl.length c3)) NX f d1 d2 d3 e1 e2 e3 f.h (.slice a2 f.h.pl.length c2) (.slice a3 f.h.nl.length c3)) := Lib.hid (by rw [hwd]; exact HNE.out.on (Kept.refl _ _).drew)
      have HS0 : Hid ((fun w' => w'.heap[g10]? = some (.cells (stC (stH f f.h) (.slice a2 f.h.pl.length c2) (.slice a3 f.h.nl.length c3)) 32 (0, 0)) ∧ w'.heap[g11]? = some (.cells NX 37 (0, 0))) (wD)) := Lib.hid ⟨HNJ.out.bn, HNJ.out.bo⟩
      refine AnyBut.start (S := fun w' => w'.heap[g10]? = some (.cells (stC (stH f f.h) (.slice a2 f.h.pl.length c2) (.slice a3 f.h.nl.length c3)) 32 (0, 0)) ∧ w'.heap[g11]? = some (.cells NX 37 (0, 0))) (k := 5) (by kernel_rfl) ?_
      rw [← hwd]
      clear hwd
      refine AnyBut.takeS (i := 0) (v := ?v4) rfl (by kernel_rfl) (Nat.le_of_eq (by kernel_rfl)) (by kernel_rfl) (by kernel_rfl) (fun _ _ _ h => h) (HS0.out) (Or.inl ⟨by kernel_rfl, ?hy4⟩) ?r4
      case hy4 =>
        intro w hSw
        try dsimp only at hSw
        refine exec_load_row 32 (.tmp 10) ?_ g10 ?_ 32 _ (0, 0) _ hSw.1 Try.underlying32 rfl state_info
        · rfl
        · rfl
      try simp only [Act.put, List.getElem_toArray, List.getElem_cons_zero, List.setIfInBounds_toArray, List.set_cons_zero, List.set_cons_succ]
      refine AnyBut.takeS (i := 1) (v := ?v5) rfl (by kernel_rfl) (Nat.le_of_eq (by kernel_rfl)) (by kernel_rfl) (by kernel_rfl) (fun _ _ _ h => h) (HS0.out) (Or.inl ⟨by kernel_rfl, ?hy5⟩) ?r5
      case hy5 =>
        intro w hSw
        try dsimp only at hSw
        refine exec_load_row 37 (.tmp 11) ?_ g11 ?_ 37 _ (0, 0) _ hSw.2 Try.underlying37 rfl HIN.out.1
        · rfl
        · rfl
      try simp only [Act.put, List.getElem_toArray, List.getElem_cons_succ, List.getElem_cons_zero, List.setIfInBounds_toArray, List.set_cons_zero, List.set_cons_succ]
      refine AnyBut.one (i := 2) (by kernel_rfl) rfl (fun K hK => ?_)
      refine step_store_row (by rfl) 32 (.tmp 6) (.tmp 65) (by rfl) (q + 1 + 1) (stC (stH f f.h) (.slice a2 f.h.pl.length c2) (.slice a3 f.h.nl.length c3)) (by rfl) (by rfl) 32 #[.bool false, .int .i64 0, .int .i64 0, .int .i64 0, .int .u64 0, .int .u64 0, .int .i64 0, .int .u64 0, .int .i64 0, .slice none 0 0, .int .i64 0, .slice none 0 0] (HB4.out (wD) HNJ.out.k).2.2.1 state_info rfl (stC_one HNJ.out.st.one) ?_
      have HKx : Hid (Kept (fun i => i = q + 1 + 1) (wD) ((wD).setRow (q + 1 + 1) (stC (stH f f.h) (.slice a2 f.h.pl.length c2) (.slice a3 f.h.nl.length c3)))) := Lib.hid (setRow_keptW _ _ _)
      have HBx : Hid (((wD).setRow (q + 1 + 1) (stC (stH f f.h) (.slice a2 f.h.pl.length c2) (.slice a3 f.h.nl.length c3))).heap[q + 1 + 1]? = some (.cells (stC (stH f f.h) (.slice a2 f.h.pl.length c2) (.slice a3 f.h.nl.length c3)) 32 (0, 0)) ∧ ((wD).setRow (q + 1 + 1) (stC (stH f f.h) (.slice a2 f.h.pl.length c2) (.slice a3 f.h.nl.length c3))).heap[q + 1 + 1 + 1]? = some (.cells #[.string { data := #[] }, .slice none 0 0, .int .i64 0, .int .i64 0, .bool false, .int .i64 0, .int .i64 0, .int .i64 0, .int .u64 0, .int .u64 0, .int .i64 0, .int .u64 0, .int .i64 0, .slice none 0 0, .int .i64 0, .slice none 0 0, .int .i64 0] 37 (0, 0))) := Lib.hid ⟨setRow_heap _ _ _ _ _ _ (HB4.out (wD) HNJ.out.k).2.2.1, HKx.out.same (HB4.out (wD) HNJ.out.k).2.2.2 (by omega)⟩
      have HSx : Hid ((fun w' => w'.heap[g10]? = some (.cells (stC (stH f f.h) (.slice a2 f.h.pl.length c2) (.slice a3 f.h.nl.length c3)) 32 (0, 0)) ∧ w'.heap[g11]? = some (.cells NX 37 (0, 0))) ((wD).setRow (q + 1 + 1) (stC (stH f f.h) (.slice a2 f.h.pl.length c2) (.slice a3 f.h.nl.length c3)))) := Lib.hid ⟨HKx.out.same HS0.out.1 (by have := (Array.getElem?_eq_some_iff.1 (HB4.out w4 (Kept.refl _ _)).2.2.2).1; have := HNJ.out.lt; omega), HKx.out.same HS0.out.2 (by have := (Array.getElem?_eq_some_iff.1 (HB4.out w4 (Kept.refl _ _)).2.2.2).1; have := HNJ.out.lt; omega)⟩
      refine hK.out _ _ (HSx.out) ?_
      clear hK K
      try simp only [Act.put, List.getElem_toArray, List.getElem_cons_succ, List.getElem_cons_zero]
      refine AnyBut.one (i := 3) (by kernel_rfl) rfl (fun K hK => ?_)
      refine step_store_row (by rfl) 37 (.tmp 7) (.tmp 66) (by rfl) (q + 1 + 1 + 1) NX (by rfl) (by rfl) 37 #[.string { data := #[] }, .slice none 0 0, .int .i64 0, .int .i64 0, .bool false, .int .i64 0, .int .i64 0, .int .i64 0, .int .u64 0, .int .u64 0, .int .i64 0, .int .u64 0, .int .i64 0, .slice none 0 0, .int .i64 0, .slice none 0 0, .int .i64 0] HBx.out.2 HIN.out.1 (by rw [HIN.out.2.1]; rfl) HIN.out.2.2 ?_
      have HKy : Hid (Kept (fun i => i = q + 1 + 1 + 1) ((wD).setRow (q + 1 + 1) (stC (stH f f.h) (.slice a2 f.h.pl.length c2) (.slice a3 f.h.nl.length c3))) (((wD).setRow (q + 1 + 1) (stC (stH f f.h) (.slice a2 f.h.pl.length c2) (.slice a3 f.h.nl.length c3))).setRow (q + 1 + 1 + 1) NX)) := Lib.hid (setRow_keptW _ _ _)
      have HBy : Hid ((((wD).setRow (q + 1 + 1) (stC (stH f f.h) (.slice a2 f.h.pl.length c2) (.slice a3 f.h.nl.length c3))).setRow (q + 1 + 1 + 1) NX).heap[q + 1 + 1]? = some (.cells (stC (stH f f.h) (.slice a2 f.h.pl.length c2) (.slice a3 f.h.nl.length c3)) 32 (0, 0)) ∧ (((wD).setRow (q + 1 + 1) (stC (stH f f.h) (.slice a2 f.h.pl.length c2) (.slice a3 f.h.nl.length c3))).setRow (q + 1 + 1 + 1) NX).heap[q + 1 + 1 + 1]? = some (.cells NX 37 (0, 0))) := Lib.hid ⟨HKy.out.same HBx.out.1 (by omega), setRow_heap _ _ _ _ _ _ HBx.out.2⟩
      have HSy : Hid ((fun w' => w'.heap[g10]? = some (.cells (stC (stH f f.h) (.slice a2 f.h.pl.length c2) (.slice a3 f.h.nl.length c3)) 32 (0, 0)) ∧ w'.heap[g11]? = some (.cells NX 37 (0, 0))) (((wD).setRow (q + 1 + 1) (stC (stH f f.h) (.slice a2 f.h.pl.length c2) (.slice a3 f.h.nl.length c3))).setRow (q + 1 + 1 + 1) NX)) := Lib.hid ⟨HKy.out.same HSx.out.1 (by have := (Array.getElem?_eq_some_iff.1 (HB4.out w4 (Kept.refl _ _)).2.2.2).1; have := HNJ.out.lt; omega), HKy.out.same HSx.out.2 (by have := (Array.getElem?_eq_some_iff.1 (HB4.out w4 (Kept.refl _ _)).2.2.2).1; have := HNJ.out.lt; omega)⟩
      refine hK.out _ _ (HSy.out) ?_
      clear hK K
      try simp only [Act.put, List.getElem_toArray, List.getElem_cons_succ, List.getElem_cons_zero]
      refine AnyBut.takeS (i := 4) (v := ?v6) rfl (by kernel_rfl) (Nat.le_of_eq (by kernel_rfl)) (by kernel_rfl) (by kernel_rfl) (fun _ _ _ h => h) (HSy.out) (Or.inl ⟨by kernel_rfl, ?hy6⟩) ?r6
      case hy6 =>
        intro w hSw
        try dsimp only at hSw
        go_simp
        try with_reducible rfl
      try simp only [Act.put, List.getElem_toArray, List.getElem_cons_succ, List.getElem_cons_zero, List.setIfInBounds_toArray, List.set_cons_zero, List.set_cons_succ]
      refine AnyBut.done (by kernel_rfl) ?_
      go_wp2
      refine bodyPost_ret (results_cct Try.results33 _ _ (q + 1 + 1) (q + 1 + 1 + 1) 32 37 _ _ (0, 0) (0, 0) _ _ rfl HBy.out.1 Try.underlying32 rfl state_info rfl HBy.out.2 Try.underlying37 rfl HIN.out.1) rfl ?_
      have n0 := HNJ.out.new.down HK04.out
      have n1 := n0.set (HB4.out (wD) HNJ.out.k).2.2.1 (by decide) (by decide) (by have := HGE.out; omega) HKx.out
      have hlast := n1.set HBx.out.2 (by decide) (by decide) (by have := HGE.out; omega) HKy.out
      have t1 := HNJ.out.st.set (HB4.out (wD) HNJ.out.k).2.2.1 (by decide) (by have := HGE.out; omega) HKx.out
      have t2 := t1.set HBx.out.2 (by decide) (by have := HGE.out; omega) HKy.out
      rw [HOW.out, HOS.out]
      refine ⟨_, _, _, rfl, t2, ?_⟩
      have hgp := GotP.parts (y := { f with temp := 2, flags := mv }) hlast ⟨rfl, rfl⟩
      rw [← HNX.out] at hgp
      exact hgp
  | true =>
    rw [if_pos (show true = true from rfl)]
    by_cases hl : lateI s f = 0
    case neg =>
      rw [if_neg hl, if_neg hl]
      have q2 : (lateI s f != 0) = true := by rw [bne_iff_ne]; exact hl
      go_enter Try.func33, Try.ntmps33
      go_upto_region 1 with fail
      rw [← HW2.out.1, ← HW2.out.2]
      go_wp2_with (first
        | (refine wpList_load_row rfl 37 (.tmp 4) rfl (q + 1) rfl 37 _ (0, 0) _ HB.out.2.1 Try.underlying37 rfl HIX.out ?_)
        | fail)
      refine (HTK.out w2 (Kept.refl _ _)).mono ?_
      rintro e w3 ⟨v, rfl, g3⟩
      have HG3 := Lib.hid g3
      obtain ⟨CY, rfl, hi, hs, h1⟩ := g3.cells
      have HIY := Lib.hid hi
      have HSY := Lib.hid (And.intro hs h1)
      have HK3 := Lib.hid g3.kept
      clear g3 hi hs h1
      go_upto_region 2 with (refine wpList_store_to rfl 37 (.tmp 4) _ rfl (q + 1) CY rfl rfl 37 CX (HBX.out w3 HK3.out).2.1 HIY.out (by rw [HSX.out, HSY.out.1]) HSY.out.2 ?_; intro w4 hb4 k4; have HB4 : Hid (∀ w', Kept (fun _ => False) w4 w' → w'.heap[q]? = some (.cells CS 32 (0, 0)) ∧ w'.heap[q + 1]? = some (.cells CY 37 (0, 0)) ∧ w'.heap[q + 1 + 1]? = some (.cells #[.bool false, .int .i64 0, .int .i64 0, .int .i64 0, .int .u64 0, .int .u64 0, .int .i64 0, .int .u64 0, .int .i64 0, .slice none 0 0, .int .i64 0, .slice none 0 0] 32 (0, 0)) ∧ w'.heap[q + 1 + 1 + 1]? = some (.cells #[.string { data := #[] }, .slice none 0 0, .int .i64 0, .int .i64 0, .bool false, .int .i64 0, .int .i64 0, .int .i64 0, .int .u64 0, .int .u64 0, .int .i64 0, .int .u64 0, .int .i64 0, .slice none 0 0, .int .i64 0, .slice none 0 0, .int .i64 0] 37 (0, 0))) := Lib.hid (fun w' k => ⟨k.same (k4.same (HBX.out w3 HK3.out).1 (by omega)) (fun x => x), k.same hb4 (fun x => x), k.same (k4.same (HBX.out w3 HK3.out).2.2.1 (by omega)) (fun x => x), k.same (k4.same (HBX.out w3 HK3.out).2.2.2 (by omega)) (fun x => x)⟩); have HK04 := Lib.hid ((HK02.out.trans HK3.out).newer k4 (fun i e => by have := HGE.out; omega)); have HN4 : Hid (GotP w w4 f (.agg CY)) := Lib.hid (by obtain ⟨a1, a2, a3, c1, c2, c3, e, n⟩ := HG3.out; exact ⟨a1, a2, a3, c1, c2, c3, e, (n.down HK02.out).set (HBX.out w3 HK3.out).2.1 (by decide) (by decide) (by have := HGE.out; omega) k4⟩); have s0 : w4.cell? ⟨q, 0, none⟩ = some (.bool true) := cell_rowZ 0 _ (HB4.out w4 (Kept.refl _ _)).1 (by rw [HCS.out, ← hsm]; rfl); clear hb4 k4)
      obtain ⟨a1, a2, a3, c1, c2, c3, hvy, n4⟩ := HN4.out
      have HCY : Hid (CY = pntC f (.slice a1 f.L.length c1) (.slice a2 f.h.pl.length c2) (.slice a3 f.h.nl.length c3)) := Lib.hid (by injection hvy)
      have HFN := Lib.hid n4
      clear hvy n4
      clear hsm hl
      go_wp2_with (first
        | (refine wpList_load_row rfl 32 (.tmp 3) rfl q rfl 32 _ (0, 0) _ (HB4.out w4 (Kept.refl _ _)).1 Try.underlying32 rfl HIS.out ?_)
        | (refine wpList_load_row rfl 37 (.tmp 4) rfl (q + 1) rfl 37 _ (0, 0) _ (HB4.out w4 (Kept.refl _ _)).2.1 Try.underlying37 rfl HIY.out ?_)
        | fail)
      rw [HCY.out]
      refine (HLT.out _ _ _ w4).mono ?_
      rintro e w5 ⟨rfl, k5⟩
      have HK5 := Lib.hid k5
      clear k5
      rw [← HCY.out]
      go_wp2_with (first
        | (refine wpList_store_row rfl 32 (.tmp 6) _ rfl (q + 1 + 1) #[.bool false, .int .i64 0, .int .i64 0, .int .i64 0, .int .u64 0, .int .u64 0, .int .i64 0, .int .u64 0, .int .i64 0, .slice none 0 0, .int .i64 0, .slice none 0 0] rfl rfl 32 _ (HB4.out w5 HK5.out).2.2.1 state_info rfl (stC_one (s := zeroSt) ⟨rfl, rfl⟩) ?_)
        | (refine wpList_store_row rfl 37 (.tmp 7) _ rfl (q + 1 + 1 + 1) #[.string { data := #[] }, .slice none 0 0, .int .i64 0, .int .i64 0, .bool false, .int .i64 0, .int .i64 0, .int .i64 0, .int .u64 0, .int .u64 0, .int .i64 0, .int .u64 0, .int .i64 0, .slice none 0 0, .int .i64 0, .slice none 0 0, .int .i64 0] rfl rfl 37 _ ((setRow_keptW _ _ _).same (HB4.out w5 HK5.out).2.2.2 (by omega)) point_info rfl (pntC_one' (x := zeroPt) (ones_slices _ _ _ _ _ _ _ _ _)) ?_)
        | fail)
      have kz1 : Kept (fun i => i = q + 1 + 1) w5 (w5.setRow (q + 1 + 1) #[.bool false, .int .i64 0, .int .i64 0, .int .i64 0, .int .u64 0, .int .u64 0, .int .i64 0, .int .u64 0, .int .i64 0, .slice none 0 0, .int .i64 0, .slice none 0 0]) := setRow_keptW _ _ _
      have kz2 : Kept (fun i => i = q + 1 + 1 + 1) (w5.setRow (q + 1 + 1) #[.bool false, .int .i64 0, .int .i64 0, .int .i64 0, .int .u64 0, .int .u64 0, .int .i64 0, .int .u64 0, .int .i64 0, .slice none 0 0, .int .i64 0, .slice none 0 0]) ((w5.setRow (q + 1 + 1) #[.bool false, .int .i64 0, .int .i64 0, .int .i64 0, .int .u64 0, .int .u64 0, .int .i64 0, .int .u64 0, .int .i64 0, .slice none 0 0, .int .i64 0, .slice none 0 0]).setRow (q + 1 + 1 + 1) #[.string { data := #[] }, .slice none 0 0, .int .i64 0, .int .i64 0, .bool false, .int .i64 0, .int .i64 0, .int .i64 0, .int .u64 0, .int .u64 0, .int .i64 0, .int .u64 0, .int .i64 0, .slice none 0 0, .int .i64 0, .slice none 0 0, .int .i64 0]) := setRow_keptW _ _ _
      refine bodyPost_ret (results_cct Try.results33 _ _ (q + 1 + 1) (q + 1 + 1 + 1) 32 37 _ _ (0, 0) (0, 0) _ _ rfl (kz2.same (setRow_heap _ _ _ _ _ _ (HB4.out w5 HK5.out).2.2.1) (by omega)) Try.underlying32 rfl state_info rfl (setRow_heap _ _ _ _ _ _ (kz1.same (HB4.out w5 HK5.out).2.2.2 (by omega))) Try.underlying37 rfl point_info) rfl ?_
      have kz3 := ((HK04.out.trans HK5.out).newer kz1 (fun i e => by have := HGE.out; omega)).newer kz2 (fun i e => by have := HGE.out; omega)
      exact ⟨.slice none 0 0, .slice none 0 0, _, rfl, StN.nil kz3, GotP.zero kz3⟩
    rw [hl, if_pos (show (0 : Int) = 0 from rfl), if_pos (show (0 : Int) = 0 from rfl)]
    go_enter Try.func33, Try.ntmps33
    go_upto_region 1 with fail
    rw [← HW2.out.1, ← HW2.out.2]
    go_wp2_with (first
      | (refine wpList_load_row rfl 37 (.tmp 4) rfl (q + 1) rfl 37 _ (0, 0) _ HB.out.2.1 Try.underlying37 rfl HIX.out ?_)
      | fail)
    refine (HTK.out w2 (Kept.refl _ _)).mono ?_
    rintro e w3 ⟨v, rfl, g3⟩
    have HG3 := Lib.hid g3
    obtain ⟨CY, rfl, hi, hs, h1⟩ := g3.cells
    have HIY := Lib.hid hi
    have HSY := Lib.hid (And.intro hs h1)
    have HK3 := Lib.hid g3.kept
    clear g3 hi hs h1
    go_upto_region 2 with (refine wpList_store_to rfl 37 (.tmp 4) _ rfl (q + 1) CY rfl rfl 37 CX (HBX.out w3 HK3.out).2.1 HIY.out (by rw [HSX.out, HSY.out.1]) HSY.out.2 ?_; intro w4 hb4 k4; have HB4 : Hid (∀ w', Kept (fun _ => False) w4 w' → w'.heap[q]? = some (.cells CS 32 (0, 0)) ∧ w'.heap[q + 1]? = some (.cells CY 37 (0, 0)) ∧ w'.heap[q + 1 + 1]? = some (.cells #[.bool false, .int .i64 0, .int .i64 0, .int .i64 0, .int .u64 0, .int .u64 0, .int .i64 0, .int .u64 0, .int .i64 0, .slice none 0 0, .int .i64 0, .slice none 0 0] 32 (0, 0)) ∧ w'.heap[q + 1 + 1 + 1]? = some (.cells #[.string { data := #[] }, .slice none 0 0, .int .i64 0, .int .i64 0, .bool false, .int .i64 0, .int .i64 0, .int .i64 0, .int .u64 0, .int .u64 0, .int .i64 0, .int .u64 0, .int .i64 0, .slice none 0 0, .int .i64 0, .slice none 0 0, .int .i64 0] 37 (0, 0))) := Lib.hid (fun w' k => ⟨k.same (k4.same (HBX.out w3 HK3.out).1 (by omega)) (fun x => x), k.same hb4 (fun x => x), k.same (k4.same (HBX.out w3 HK3.out).2.2.1 (by omega)) (fun x => x), k.same (k4.same (HBX.out w3 HK3.out).2.2.2 (by omega)) (fun x => x)⟩); have HK04 := Lib.hid ((HK02.out.trans HK3.out).newer k4 (fun i e => by have := HGE.out; omega)); have HN4 : Hid (GotP w w4 f (.agg CY)) := Lib.hid (by obtain ⟨a1, a2, a3, c1, c2, c3, e, n⟩ := HG3.out; exact ⟨a1, a2, a3, c1, c2, c3, e, (n.down HK02.out).set (HBX.out w3 HK3.out).2.1 (by decide) (by decide) (by have := HGE.out; omega) k4⟩); have s0 : w4.cell? ⟨q, 0, none⟩ = some (.bool true) := cell_rowZ 0 _ (HB4.out w4 (Kept.refl _ _)).1 (by rw [HCS.out, ← hsm]; rfl); clear hb4 k4)
    obtain ⟨a1, a2, a3, c1, c2, c3, hvy, n4⟩ := HN4.out
    have HCY : Hid (CY = pntC f (.slice a1 f.L.length c1) (.slice a2 f.h.pl.length c2) (.slice a3 f.h.nl.length c3)) := Lib.hid (by injection hvy)
    have HFN := Lib.hid n4
    clear hvy n4
    clear hsm
    go_wp2_with (first
      | (refine wpList_load_row rfl 32 (.tmp 3) rfl q rfl 32 _ (0, 0) _ (HB4.out w4 (Kept.refl _ _)).1 Try.underlying32 rfl HIS.out ?_)
      | (refine wpList_load_row rfl 37 (.tmp 4) rfl (q + 1) rfl 37 _ (0, 0) _ (HB4.out w4 (Kept.refl _ _)).2.1 Try.underlying37 rfl HIY.out ?_)
      | fail)
    rw [HCY.out]
    refine (HLT.out _ _ _ w4).mono ?_
    rintro e w5 ⟨rfl, k5⟩
    have HK5 := Lib.hid k5
    clear k5
    rw [← HCY.out]
    rw [hl]
    clear hl
    go_upto_region 6 with fail
    clear s0
    have p5 : w5.cell? ⟨q + 1, 5, none⟩ = some (.int .i64 f.start) := cell_rowZ 5 _ (HB4.out w5 HK5.out).2.1 (by rw [HCY.out]; rfl)
    have p6 : w5.cell? ⟨q + 1, 6, none⟩ = some (.int .i64 f.time) := cell_rowZ 6 _ (HB4.out w5 HK5.out).2.1 (by rw [HCY.out]; rfl)
    have p7 : w5.cell? ⟨q + 1, 7, none⟩ = some (.int .i64 f.whole) := cell_rowZ 7 _ (HB4.out w5 HK5.out).2.1 (by rw [HCY.out]; rfl)
    have p8 : w5.cell? ⟨q + 1, 8, none⟩ = some (.int .u64 f.re) := cell_rowZ 8 _ (HB4.out w5 HK5.out).2.1 (by rw [HCY.out]; rfl)
    have p9 : w5.cell? ⟨q + 1, 9, none⟩ = some (.int .u64 f.im) := cell_rowZ 9 _ (HB4.out w5 HK5.out).2.1 (by rw [HCY.out]; rfl)
    have p10 : w5.cell? ⟨q + 1, 10, none⟩ = some (.int .i64 f.h.sc) := cell_rowZ 10 _ (HB4.out w5 HK5.out).2.1 (by rw [HCY.out]; rfl)
    have p11 : w5.cell? ⟨q + 1, 11, none⟩ = some (.int .u64 (f.h.ze : Int)) := cell_rowZ 11 _ (HB4.out w5 HK5.out).2.1 (by rw [HCY.out]; rfl)
    have p12 : w5.cell? ⟨q + 1, 12, none⟩ = some (.int .i64 f.h.po) := cell_rowZ 12 _ (HB4.out w5 HK5.out).2.1 (by rw [HCY.out]; rfl)
    have p13 : w5.cell? ⟨q + 1, 13, none⟩ = some (.slice a2 f.h.pl.length c2) := cell_rowZ 13 _ (HB4.out w5 HK5.out).2.1 (by rw [HCY.out]; rfl)
    have p14 : w5.cell? ⟨q + 1, 14, none⟩ = some (.int .i64 f.h.no) := cell_rowZ 14 _ (HB4.out w5 HK5.out).2.1 (by rw [HCY.out]; rfl)
    have p15 : w5.cell? ⟨q + 1, 15, none⟩ = some (.slice a3 f.h.nl.length c3) := cell_rowZ 15 _ (HB4.out w5 HK5.out).2.1 (by rw [HCY.out]; rfl)
    obtain ⟨g10, hg10⟩ : ∃ g, g = w5.heap.size := ⟨_, rfl⟩
    have HG10 := Lib.hid hg10
    clear hg10
    go_upto_region 7 with (refine wpList_store_box rfl 32 (.tmp 10) _ rfl w5 _ (stC (stH f f.h) (.slice a2 f.h.pl.length c2) (.slice a3 f.h.nl.length c3)) 32 rfl rfl rfl state_info rfl (stC_one ⟨rfl, rfl⟩) ?_; intro w6 hb6 k6; have HB6 : Hid (w6.heap[g10]? = some (.cells (stC (stH f f.h) (.slice a2 f.h.pl.length c2) (.slice a3 f.h.nl.length c3)) 32 (0, 0))) := Lib.hid (by rw [HG10.out]; exact hb6); have HK6 := Lib.hid (HK5.out.trans k6); clear hb6 k6)
    clear p5 p6 p7 p8 p9 p10 p11 p12 p13 p14 p15
    rw [← HG10.out]
    go_wp2_with (first
      | (refine wpList_load_row rfl 37 (.tmp 4) rfl (q + 1) rfl 37 _ (0, 0) _ (HB4.out w6 HK6.out).2.1 Try.underlying37 rfl HIY.out ?_)
      | fail)
    rw [HCY.out]
    have hpc := pClone_any f a1 a2 a3 c1 c2 c3 w6 (HFN.out.on HK6.out).pnt HFL.out
    unfold pntV at hpc
    refine hpc.mono ?_
    clear hpc
    rintro e w7 ⟨d1, e1, d2, e2, d3, e3, rfl, m1, m2, m3⟩
    rw [← HCY.out]
    have n7 : NewP w6 w7 f d1 d2 d3 e1 e2 e3 := ⟨m1, m2, m3⟩
    obtain ⟨OX, hOX⟩ : ∃ a, a = pntC f (.slice d1 f.L.length e1) (.slice d2 f.h.pl.length e2) (.slice d3 f.h.nl.length e3) := ⟨_, rfl⟩
    rw [← hOX]
    have HIO : Hid ((Try.prog.info? 37).map (·.size) = some OX.size ∧ OX.size = 17 ∧ OX.all (·.oneCell') = true) := Lib.hid (by rw [hOX]; exact ⟨point_info, rfl, pntC_one' (ones_slices _ _ _ _ _ _ _ _ _)⟩)
    have HN7 := Lib.hid n7
    have HOX := Lib.hid hOX
    obtain ⟨g11, hg11⟩ : ∃ g, g = w7.heap.size := ⟨_, rfl⟩
    have HG11 := Lib.hid hg11
    clear n7 m1 m2 m3 hOX hg11
    go_upto_region 8 with (refine wpList_store_box rfl 37 (.tmp 11) _ rfl w7 _ OX 37 rfl rfl rfl HIO.out.1 (by rw [HIO.out.2.1]; rfl) HIO.out.2.2 ?_; intro w8 hb8 k8; have HNB : Hid (ND w w4 w8 g10 g11 (stC (stH f f.h) (.slice a2 f.h.pl.length c2) (.slice a3 f.h.nl.length c3)) (pntC f (.slice d1 f.L.length e1) (.slice d2 f.h.pl.length e2) (.slice d3 f.h.nl.length e3)) f d1 d2 d3 e1 e2 e3 f.h (.slice a2 f.h.pl.length c2) (.slice a3 f.h.nl.length c3)) := Lib.hid ⟨(HK6.out.trans HN7.out.at_.kept).trans k8, k8.same (HN7.out.at_.kept.same HB6.out (fun x => x)) (fun x => x), by rw [← HOX.out, HG11.out]; exact hb8, ⟨by have := HG10.out; have := HK5.out.size; omega, by have := HG11.out; have := HK6.out.size; have := HN7.out.at_.kept.size; omega, fun e => by have h1 := (Array.getElem?_eq_some_iff.1 HB6.out).1; have h2 := HN7.out.at_.kept.size; have h3 := HG11.out; omega⟩, (HN7.out.down HK6.out).on k8, ⟨a2, a3, c2, c3, rfl, rfl, ⟨HFN.out.mp.on ((HK6.out.trans HN7.out.at_.kept).trans k8), HFN.out.mn.on ((HK6.out.trans HN7.out.at_.kept).trans k8)⟩⟩, HK04.out.size⟩; clear hb8 k8)
    rw [← HG11.out]
    clear HN7 HOX HIO HB6
    have c3' : w8.cell? ⟨g11, 3, none⟩ = some (.int .i64 f.temp) := cell_rowZ 3 _ HNB.out.bo rfl
    have f3' := free_of_rowZ 3 HNB.out.bo
    go_upto_region 9 with fail
    clear c3' f3'
    have HNC := Lib.hid (HNB.out.put 3 (.int .i64 2) (OX' := pntC { f with temp := 2 } (.slice d1 f.L.length e1) (.slice d2 f.h.pl.length e2) (.slice d3 f.h.nl.length e3)) rfl)
    clear HNB
    obtain ⟨w9, hw9⟩ : ∃ w', w' = w8.setCell ⟨g11, 3, none⟩ (.int .i64 2) := ⟨_, rfl⟩
    rw [← hw9] at HNC
    rw [← hw9]
    clear hw9
    go_wp2_with (first
      | (refine wpList_load_row rfl 32 (.tmp 3) rfl q rfl 32 _ (0, 0) _ (HB4.out w9 HNC.out.k).1 Try.underlying32 rfl HIS.out ?_)
      | (refine wpList_load_row rfl 37 (.tmp 4) rfl (q + 1) rfl 37 _ (0, 0) _ (HB4.out w9 HNC.out.k).2.1 Try.underlying37 rfl HIY.out ?_)
      | fail)
    rw [HCY.out]
    refine (HMV.out _ _ _ w9).mono ?_
    rintro e w10 ⟨rfl, k10⟩
    have HND := Lib.hid (HNC.out.on k10)
    clear k10 HNC
    rw [← HCY.out]
    obtain ⟨mv, hmv⟩ : ∃ m, m = movedI s f := ⟨_, rfl⟩
    rw [← hmv]
    have HMVE := Lib.hid hmv
    clear hmv
    have c16 : w10.cell? ⟨g11, 16, none⟩ = some (.int .i64 f.flags) := cell_rowZ 16 _ HND.out.bo rfl
    have f16 := free_of_rowZ 16 HND.out.bo
    go_upto_region 10 with fail
    clear c16 f16
    have HNE := Lib.hid (HND.out.put 16 (.int .i64 mv) (OX' := pntC { f with temp := 2, flags := mv } (.slice d1 f.L.length e1) (.slice d2 f.h.pl.length e2) (.slice d3 f.h.nl.length e3)) rfl)
    clear HND
    obtain ⟨w11, hw11⟩ : ∃ w', w' = w10.setCell ⟨g11, 16, none⟩ (.int .i64 mv) := ⟨_, rfl⟩
    rw [← hw11] at HNE
    rw [← hw11]
    clear hw11
    have c16 : w11.cell? ⟨g11, 16, none⟩ = some (.int .i64 mv) := cell_rowZ 16 _ HNE.out.bo rfl
    by_cases hm : mv = 0
    · subst hm
      have HOW : Hid (outD s f = lessA s { f with temp := 2, flags := 0, start := s.time }) := Lib.hid (by unfold outD; rw [if_pos HMVE.out.symm])
      have HOS : Hid (stD s f = stH f (lessH s f)) := Lib.hid (by rw [stD_eq, if_pos HMVE.out.symm])
      have s2 : w11.cell? ⟨q, 2, none⟩ = some (.int .i64 s.time) := cell_rowZ 2 _ (HB4.out w11 HNE.out.k).1 (by rw [HCS.out]; rfl)
      have c5' : w11.cell? ⟨g11, 5, none⟩ = some (.int .i64 f.start) := cell_rowZ 5 _ HNE.out.bo rfl
      have f5' := free_of_rowZ 5 HNE.out.bo
      go_upto_region 12 with fail
      clear s2 c5' f5' c16
      have HNF := Lib.hid (HNE.out.put 5 (.int .i64 s.time) (OX' := pntC { f with temp := 2, flags := 0, start := s.time } (.slice d1 f.L.length e1) (.slice d2 f.h.pl.length e2) (.slice d3 f.h.nl.length e3)) rfl)
      clear HNE
      obtain ⟨w12, hw12⟩ : ∃ w', w' = w11.setCell ⟨g11, 5, none⟩ (.int .i64 s.time) := ⟨_, rfl⟩
      rw [← hw12] at HNF
      rw [← hw12]
      clear hw12
      have hle := lessD_any s sp sn { f with temp := 2, flags := 0, start := s.time } d1 d2 d3 e1 e2 e3 w4 w12 ⟨HNF.out.new.at_, HNF.out.new.mp, HNF.out.new.mn⟩ HFO.out.kd ⟨HHS.out.at_.on (HK04.out.trans HNF.out.k), HHS.out.ok, HHS.out.cp, HHS.out.cn⟩ HFO.out.h HLS.out.1 HLS.out.2 HFO.out.lp HFO.out.ln HU.out.1 HU.out.2 HFO.out.re HFO.out.im
      rw [← HCS.out] at hle
      obtain ⟨OY, hOY⟩ : ∃ a, a = pntC { f with temp := 2, flags := 0, start := s.time } (.slice d1 f.L.length e1) (.slice d2 f.h.pl.length e2) (.slice d3 f.h.nl.length e3) := ⟨_, rfl⟩
      have HIO : Hid ((Try.prog.info? 37).map (·.size) = some OY.size ∧ OY.size = 17) := Lib.hid (by rw [hOY]; exact ⟨point_info, rfl⟩)
      rw [← hOY] at HNF
      rw [show pntC { f with temp := 2, flags := 0, start := s.time } (.slice d1 ({ f with temp := 2, flags := 0, start := s.time } : Pnt).L.length e1) (.slice d2 ({ f with temp := 2, flags := 0, start := s.time } : Pnt).h.pl.length e2) (.slice d3 ({ f with temp := 2, flags := 0, start := s.time } : Pnt).h.nl.length e3) = OY from hOY.symm] at hle
      have HLE := Lib.hid hle
      clear hle hOY
      obtain ⟨Y, hY⟩ : ∃ y : Pnt, y = lessA s { f with temp := 2, flags := 0, start := s.time } := ⟨_, rfl⟩
      rw [← hY] at HLE HOW
      clear hY
      rw [show lessH s { f with temp := 2, flags := 0, start := s.time } = lessH s f from rfl] at HLE
      obtain ⟨H, hH⟩ : ∃ h, h = lessH s f := ⟨_, rfl⟩
      rw [← hH] at HLE HOS
      clear hH
      go_wp2_with (first
        | (refine wpList_load_row rfl 32 (.tmp 3) rfl q rfl 32 _ (0, 0) _ (HB4.out w12 HNF.out.k).1 Try.underlying32 rfl HIS.out ?_)
        | (refine wpList_load_row rfl 37 (.tmp 11) rfl g11 rfl 37 _ (0, 0) _ HNF.out.bo Try.underlying37 rfl HIO.out.1 ?_)
        | fail)
      refine HLE.out.mono ?_
      rintro e w13 ⟨v, tp, tn, rfl, g13, st13, k13⟩
      have HNG := Lib.hid (HNF.out.on k13)
      obtain ⟨b1, b2, b3, k1, k2, k3, rfl, n13⟩ := g13
      have HN13 := Lib.hid n13
      have HT13 := Lib.hid (st13.down HK04.out)
      have HTO := Lib.hid st13.one
      unfold pntV
      obtain ⟨NX, hNX⟩ : ∃ a, a = pntC Y (.slice b1 Y.L.length k1) (.slice b2 Y.h.pl.length k2) (.slice b3 Y.h.nl.length k3) := ⟨_, rfl⟩
      rw [← hNX]
      have HIN : Hid ((Try.prog.info? 37).map (·.size) = some NX.size ∧ NX.size = 17 ∧ NX.all (·.oneCell') = true) := Lib.hid (by rw [hNX]; exact ⟨point_info, rfl, pntC_one' (ones_slices _ _ _ _ _ _ _ _ _)⟩)
      have HNX := Lib.hid hNX
      obtain ⟨HA, hHA⟩ : ∃ a, a = histA H tp tn := ⟨_, rfl⟩
      rw [← hHA]
      have HHA := Lib.hid hHA
      have HIH : Hid ((Try.prog.info? 30).map (·.size) = some HA.size ∧ HA.size = 6 ∧ HA.all (·.oneCell') = true) := Lib.hid (by rw [hHA]; exact ⟨hist_info, rfl, histC_one HTO.out⟩)
      clear k13 n13 st13 hNX hHA HNF HLE
      go_upto_region 13 with (first | (refine wpList_store_to rfl 37 (.tmp 11) _ rfl g11 NX rfl rfl 37 OY HNG.out.bo HIN.out.1 (by rw [HIO.out.2, HIN.out.2.1]) HIN.out.2.2 ?_; intro w14 hb14 k14; have HNH := Lib.hid (HNG.out.over HN13.out HT13.out k14 hb14); clear hb14 k14) | (refine wpList_store_mid rfl 30 (.tmp 64) _ rfl g10 6 HA rfl rfl (by rw [HIH.out.2.1]; exact box_there HNH.out.bn 6 6 (Nat.le_refl 12)) HIH.out.1 HIH.out.2.2 ?_))
      obtain ⟨w15, hw15⟩ : ∃ w', w' = w14.setCells g10 6 HA.toList := ⟨_, rfl⟩
      have h15 := setCells6 HNH.out.bn 6 (.int .i64 H.sc) (.int .u64 (H.ze : Int)) (.int .i64 H.po) tp (.int .i64 H.no) tn
      rw [show [Value.int .i64 H.sc, .int .u64 (H.ze : Int), .int .i64 H.po, tp, .int .i64 H.no, tn] = HA.toList by rw [HHA.out]; rfl, ← hw15] at h15
      have HNI : Hid (ND w w4 w15 g10 g11 (stC (stH f H) tp tn) NX Y b1 b2 b3 k1 k2 k3 H tp tn) := Lib.hid (HNH.out.next h15.2 (by rw [h15.1]; rfl))
      obtain ⟨wD, hwd⟩ : ∃ w', w' = w15.drew := ⟨_, rfl⟩
      first | rw [← hw15, ← hwd] | rw [← hw15] | skip
      have HNJ : Hid (ND w w4 wD g10 g11 (stC (stH f H) tp tn) NX Y b1 b2 b3 k1 k2 k3 H tp tn) := Lib.hid (by rw [hwd]; exact HNI.out.on (Kept.refl _ _).drew)
      clear hw15 h15 HNG HNH HNI
      have HS0 : Hid ((fun w' => w'.heap[g10]? = some (.cells (stC (stH f H) tp tn) 32 (0, 0)) ∧ w'.heap[g11]? = some (.cells NX 37 (0, 0))) (wD)) := Lib.hid ⟨HNJ.out.bn, HNJ.out.bo⟩
      refine AnyBut.start (S := fun w' => w'.heap[g10]? = some (.cells (stC (stH f H) tp tn) 32 (0, 0)) ∧ w'.heap[g11]? = some (.cells NX 37 (0, 0))) (k := 5) (by kernel_rfl) ?_
      first | rw [← hwd] | skip
      clear hwd
      refine AnyBut.takeS (i := 0) (v := ?v7) rfl (by kernel_rfl) (Nat.le_of_eq (by kernel_rfl)) (by kernel_rfl) (by kernel_rfl) (fun _ _ _ h => h) (HS0.out) (Or.inl ⟨by kernel_rfl, ?hy7⟩) ?r7
      case hy7 =>
        intro w hSw
        try dsimp only at hSw
        refine exec_load_row 32 (.tmp 10) ?_ g10 ?_ 32 _ (0, 0) _ hSw.1 Try.underlying32 rfl state_info
        · rfl
        · rfl
      try simp only [Act.put, List.getElem_toArray, List.getElem_cons_zero, List.setIfInBounds_toArray, List.set_cons_zero, List.set_cons_succ]
      refine AnyBut.takeS (i := 1) (v := ?v8) rfl (by kernel_rfl) (Nat.le_of_eq (by kernel_rfl)) (by kernel_rfl) (by kernel_rfl) (fun _ _ _ h => h) (HS0.out) (Or.inl ⟨by kernel_rfl, ?hy8⟩) ?r8
      case hy8 =>
        intro w hSw
        try dsimp only at hSw
        refine exec_load_row 37 (.tmp 11) ?_ g11 ?_ 37 _ (0, 0) _ hSw.2 Try.underlying37 rfl HIN.out.1
        · rfl
        · rfl
      try simp only [Act.put, List.getElem_toArray, List.getElem_cons_succ, List.getElem_cons_zero, List.setIfInBounds_toArray, List.set_cons_zero, List.set_cons_succ]
      refine AnyBut.one (i := 2) (by kernel_rfl) rfl (fun K hK => ?_)
      refine step_store_row (by rfl) 32 (.tmp 6) (.tmp 65) (by rfl) (q + 1 + 1) (stC (stH f H) tp tn) (by rfl) (by rfl) 32 #[.bool false, .int .i64 0, .int .i64 0, .int .i64 0, .int .u64 0, .int .u64 0, .int .i64 0, .int .u64 0, .int .i64 0, .slice none 0 0, .int .i64 0, .slice none 0 0] (HB4.out (wD) HNJ.out.k).2.2.1 state_info rfl (stC_one HNJ.out.st.one) ?_
      have HKx : Hid (Kept (fun i => i = q + 1 + 1) (wD) ((wD).setRow (q + 1 + 1) (stC (stH f H) tp tn))) := Lib.hid (setRow_keptW _ _ _)
      have HBx : Hid (((wD).setRow (q + 1 + 1) (stC (stH f H) tp tn)).heap[q + 1 + 1]? = some (.cells (stC (stH f H) tp tn) 32 (0, 0)) ∧ ((wD).setRow (q + 1 + 1) (stC (stH f H) tp tn)).heap[q + 1 + 1 + 1]? = some (.cells #[.string { data := #[] }, .slice none 0 0, .int .i64 0, .int .i64 0, .bool false, .int .i64 0, .int .i64 0, .int .i64 0, .int .u64 0, .int .u64 0, .int .i64 0, .int .u64 0, .int .i64 0, .slice none 0 0, .int .i64 0, .slice none 0 0, .int .i64 0] 37 (0, 0))) := Lib.hid ⟨setRow_heap _ _ _ _ _ _ (HB4.out (wD) HNJ.out.k).2.2.1, HKx.out.same (HB4.out (wD) HNJ.out.k).2.2.2 (by omega)⟩
      have HSx : Hid ((fun w' => w'.heap[g10]? = some (.cells (stC (stH f H) tp tn) 32 (0, 0)) ∧ w'.heap[g11]? = some (.cells NX 37 (0, 0))) ((wD).setRow (q + 1 + 1) (stC (stH f H) tp tn))) := Lib.hid ⟨HKx.out.same HS0.out.1 (by have := (Array.getElem?_eq_some_iff.1 (HB4.out w4 (Kept.refl _ _)).2.2.2).1; have := HNJ.out.lt; omega), HKx.out.same HS0.out.2 (by have := (Array.getElem?_eq_some_iff.1 (HB4.out w4 (Kept.refl _ _)).2.2.2).1; have := HNJ.out.lt; omega)⟩
      refine hK.out _ _ (HSx.out) ?_
      clear hK K
      try simp only [Act.put, List.getElem_toArray, List.getElem_cons_succ, List.getElem_cons_zero]
      refine AnyBut.one (i := 3) (by kernel_rfl) rfl (fun K hK => ?_)
      refine step_store_row (by rfl) 37 (.tmp 7) (.tmp 66) (by rfl) (q + 1 + 1 + 1) NX (by rfl) (by rfl) 37 #[.string { data := #[] }, .slice none 0 0, .int .i64 0, .int .i64 0, .bool false, .int .i64 0, .int .i64 0, .int .i64 0, .int .u64 0, .int .u64 0, .int .i64 0, .int .u64 0, .int .i64 0, .slice none 0 0, .int .i64 0, .slice none 0 0, .int .i64 0] HBx.out.2 HIN.out.1 (by rw [HIN.out.2.1]; rfl) HIN.out.2.2 ?_
      have HKy : Hid (Kept (fun i => i = q + 1 + 1 + 1) ((wD).setRow (q + 1 + 1) (stC (stH f H) tp tn)) (((wD).setRow (q + 1 + 1) (stC (stH f H) tp tn)).setRow (q + 1 + 1 + 1) NX)) := Lib.hid (setRow_keptW _ _ _)
      have HBy : Hid ((((wD).setRow (q + 1 + 1) (stC (stH f H) tp tn)).setRow (q + 1 + 1 + 1) NX).heap[q + 1 + 1]? = some (.cells (stC (stH f H) tp tn) 32 (0, 0)) ∧ (((wD).setRow (q + 1 + 1) (stC (stH f H) tp tn)).setRow (q + 1 + 1 + 1) NX).heap[q + 1 + 1 + 1]? = some (.cells NX 37 (0, 0))) := Lib.hid ⟨HKy.out.same HBx.out.1 (by omega), setRow_heap _ _ _ _ _ _ HBx.out.2⟩
      have HSy : Hid ((fun w' => w'.heap[g10]? = some (.cells (stC (stH f H) tp tn) 32 (0, 0)) ∧ w'.heap[g11]? = some (.cells NX 37 (0, 0))) (((wD).setRow (q + 1 + 1) (stC (stH f H) tp tn)).setRow (q + 1 + 1 + 1) NX)) := Lib.hid ⟨HKy.out.same HSx.out.1 (by have := (Array.getElem?_eq_some_iff.1 (HB4.out w4 (Kept.refl _ _)).2.2.2).1; have := HNJ.out.lt; omega), HKy.out.same HSx.out.2 (by have := (Array.getElem?_eq_some_iff.1 (HB4.out w4 (Kept.refl _ _)).2.2.2).1; have := HNJ.out.lt; omega)⟩
      refine hK.out _ _ (HSy.out) ?_
      clear hK K
      try simp only [Act.put, List.getElem_toArray, List.getElem_cons_succ, List.getElem_cons_zero]
      refine AnyBut.takeS (i := 4) (v := ?v9) rfl (by kernel_rfl) (Nat.le_of_eq (by kernel_rfl)) (by kernel_rfl) (by kernel_rfl) (fun _ _ _ h => h) (HSy.out) (Or.inl ⟨by kernel_rfl, ?hy9⟩) ?r9
      case hy9 =>
        intro w hSw
        try dsimp only at hSw
        go_simp
        try with_reducible rfl
      try simp only [Act.put, List.getElem_toArray, List.getElem_cons_succ, List.getElem_cons_zero, List.setIfInBounds_toArray, List.set_cons_zero, List.set_cons_succ]
      refine AnyBut.done (by kernel_rfl) ?_
      go_wp2
      refine bodyPost_ret (results_cct Try.results33 _ _ (q + 1 + 1) (q + 1 + 1 + 1) 32 37 _ _ (0, 0) (0, 0) _ _ rfl HBy.out.1 Try.underlying32 rfl state_info rfl HBy.out.2 Try.underlying37 rfl HIN.out.1) rfl ?_
      have n0 := HNJ.out.new.down HK04.out
      have n1 := n0.set (HB4.out (wD) HNJ.out.k).2.2.1 (by decide) (by decide) (by have := HGE.out; omega) HKx.out
      have hlast := n1.set HBx.out.2 (by decide) (by decide) (by have := HGE.out; omega) HKy.out
      have t1 := HNJ.out.st.set (HB4.out (wD) HNJ.out.k).2.2.1 (by decide) (by have := HGE.out; omega) HKx.out
      have t2 := t1.set HBx.out.2 (by decide) (by have := HGE.out; omega) HKy.out
      rw [HOW.out, HOS.out]
      refine ⟨_, _, _, rfl, t2, ?_⟩
      exact ⟨b1, b2, b3, k1, k2, k3, by rw [HNX.out]; rfl, hlast⟩
    · have HOW : Hid (outD s f = { f with temp := 2, flags := mv }) := Lib.hid (by unfold outD; rw [if_neg (by rw [← HMVE.out]; exact hm), ← HMVE.out])
      have HOS : Hid (stD s f = stH f f.h) := Lib.hid (by rw [stD_eq, if_neg (by rw [← HMVE.out]; exact hm)])
      have qm : (mv == 0) = false := by rw [beq_eq_false_iff_ne]; exact hm
      clear hm
      obtain ⟨NX, hNX⟩ : ∃ a, a = pntC { f with temp := 2, flags := mv } (.slice d1 f.L.length e1) (.slice d2 f.h.pl.length e2) (.slice d3 f.h.nl.length e3) := ⟨_, rfl⟩
      have HIN : Hid ((Try.prog.info? 37).map (·.size) = some NX.size ∧ NX.size = 17 ∧ NX.all (·.oneCell') = true) := Lib.hid (by rw [hNX]; exact ⟨point_info, rfl, pntC_one' (ones_slices _ _ _ _ _ _ _ _ _)⟩)
      rw [← hNX] at HNE
      have HNX := Lib.hid hNX
      clear hNX
      go_upto_region 13 with fail
      clear c16 qm
      obtain ⟨wD, hwd⟩ : ∃ w', w' = w11.drew := ⟨_, rfl⟩
      have HNJ : Hid (ND w w4 wD g10 g11 (stC (stH f f.h) (.slice a2 f.h.pl.length c2) (.slice a3 f.h.nl.length c3)) NX f d1 d2 d3 e1 e2 e3 f.h (.slice a2 f.h.pl.length c2) (.slice a3 f.h.nl.length c3)) := Lib.hid (by rw [hwd]; exact HNE.out.on (Kept.refl _ _).drew)
      have HS0 : Hid ((fun w' => w'.heap[g10]? = some (.cells (stC (stH f f.h) (.slice a2 f.h.pl.length c2) (.slice a3 f.h.nl.length c3)) 32 (0, 0)) ∧ w'.heap[g11]? = some (.cells NX 37 (0, 0))) (wD)) := Lib.hid ⟨HNJ.out.bn, HNJ.out.bo⟩
      refine AnyBut.start (S := fun w' => w'.heap[g10]? = some (.cells (stC (stH f f.h) (.slice a2 f.h.pl.length c2) (.slice a3 f.h.nl.length c3)) 32 (0, 0)) ∧ w'.heap[g11]? = some (.cells NX 37 (0, 0))) (k := 5) (by kernel_rfl) ?_
      rw [← hwd]
      clear hwd
      refine AnyBut.takeS (i := 0) (v := ?v10) rfl (by kernel_rfl) (Nat.le_of_eq (by kernel_rfl)) (by kernel_rfl) (by kernel_rfl) (fun _ _ _ h => h) (HS0.out) (Or.inl ⟨by kernel_rfl, ?hy10⟩) ?r10
      case hy10 =>
        intro w hSw
        try dsimp only at hSw
        refine exec_load_row 32 (.tmp 10) ?_ g10 ?_ 32 _ (0, 0) _ hSw.1 Try.underlying32 rfl state_info
        · rfl
        · rfl
      try simp only [Act.put, List.getElem_toArray, List.getElem_cons_zero, List.setIfInBounds_toArray, List.set_cons_zero, List.set_cons_succ]
      refine AnyBut.takeS (i := 1) (v := ?v11) rfl (by kernel_rfl) (Nat.le_of_eq (by kernel_rfl)) (by kernel_rfl) (by kernel_rfl) (fun _ _ _ h => h) (HS0.out) (Or.inl ⟨by kernel_rfl, ?hy11⟩) ?r11
      case hy11 =>
        intro w hSw
        try dsimp only at hSw
        refine exec_load_row 37 (.tmp 11) ?_ g11 ?_ 37 _ (0, 0) _ hSw.2 Try.underlying37 rfl HIN.out.1
        · rfl
        · rfl
      try simp only [Act.put, List.getElem_toArray, List.getElem_cons_succ, List.getElem_cons_zero, List.setIfInBounds_toArray, List.set_cons_zero, List.set_cons_succ]
      refine AnyBut.one (i := 2) (by kernel_rfl) rfl (fun K hK => ?_)
      refine step_store_row (by rfl) 32 (.tmp 6) (.tmp 65) (by rfl) (q + 1 + 1) (stC (stH f f.h) (.slice a2 f.h.pl.length c2) (.slice a3 f.h.nl.length c3)) (by rfl) (by rfl) 32 #[.bool false, .int .i64 0, .int .i64 0, .int .i64 0, .int .u64 0, .int .u64 0, .int .i64 0, .int .u64 0, .int .i64 0, .slice none 0 0, .int .i64 0, .slice none 0 0] (HB4.out (wD) HNJ.out.k).2.2.1 state_info rfl (stC_one HNJ.out.st.one) ?_
      have HKx : Hid (Kept (fun i => i = q + 1 + 1) (wD) ((wD).setRow (q + 1 + 1) (stC (stH f f.h) (.slice a2 f.h.pl.length c2) (.slice a3 f.h.nl.length c3)))) := Lib.hid (setRow_keptW _ _ _)
      have HBx : Hid (((wD).setRow (q + 1 + 1) (stC (stH f f.h) (.slice a2 f.h.pl.length c2) (.slice a3 f.h.nl.length c3))).heap[q + 1 + 1]? = some (.cells (stC (stH f f.h) (.slice a2 f.h.pl.length c2) (.slice a3 f.h.nl.length c3)) 32 (0, 0)) ∧ ((wD).setRow (q + 1 + 1) (stC (stH f f.h) (.slice a2 f.h.pl.length c2) (.slice a3 f.h.nl.length c3))).heap[q + 1 + 1 + 1]? = some (.cells #[.string { data := #[] }, .slice none 0 0, .int .i64 0, .int .i64 0, .bool false, .int .i64 0, .int .i64 0, .int .i64 0, .int .u64 0, .int .u64 0, .int .i64 0, .int .u64 0, .int .i64 0, .slice none 0 0, .int .i64 0, .slice none 0 0, .int .i64 0] 37 (0, 0))) := Lib.hid ⟨setRow_heap _ _ _ _ _ _ (HB4.out (wD) HNJ.out.k).2.2.1, HKx.out.same (HB4.out (wD) HNJ.out.k).2.2.2 (by omega)⟩
      have HSx : Hid ((fun w' => w'.heap[g10]? = some (.cells (stC (stH f f.h) (.slice a2 f.h.pl.length c2) (.slice a3 f.h.nl.length c3)) 32 (0, 0)) ∧ w'.heap[g11]? = some (.cells NX 37 (0, 0))) ((wD).setRow (q + 1 + 1) (stC (stH f f.h) (.slice a2 f.h.pl.length c2) (.slice a3 f.h.nl.length c3)))) := Lib.hid ⟨HKx.out.same HS0.out.1 (by have := (Array.getElem?_eq_some_iff.1 (HB4.out w4 (Kept.refl _ _)).2.2.2).1; have := HNJ.out.lt; omega), HKx.out.same HS0.out.2 (by have := (Array.getElem?_eq_some_iff.1 (HB4.out w4 (Kept.refl _ _)).2.2.2).1; have := HNJ.out.lt; omega)⟩
      refine hK.out _ _ (HSx.out) ?_
      clear hK K
      try simp only [Act.put, List.getElem_toArray, List.getElem_cons_succ, List.getElem_cons_zero]
      refine AnyBut.one (i := 3) (by kernel_rfl) rfl (fun K hK => ?_)
      refine step_store_row (by rfl) 37 (.tmp 7) (.tmp 66) (by rfl) (q + 1 + 1 + 1) NX (by rfl) (by rfl) 37 #[.string { data := #[] }, .slice none 0 0, .int .i64 0, .int .i64 0, .bool false, .int .i64 0, .int .i64 0, .int .i64 0, .int .u64 0, .int .u64 0, .int .i64 0, .int .u64 0, .int .i64 0, .slice none 0 0, .int .i64 0, .slice none 0 0, .int .i64 0] HBx.out.2 HIN.out.1 (by rw [HIN.out.2.1]; rfl) HIN.out.2.2 ?_
      have HKy : Hid (Kept (fun i => i = q + 1 + 1 + 1) ((wD).setRow (q + 1 + 1) (stC (stH f f.h) (.slice a2 f.h.pl.length c2) (.slice a3 f.h.nl.length c3))) (((wD).setRow (q + 1 + 1) (stC (stH f f.h) (.slice a2 f.h.pl.length c2) (.slice a3 f.h.nl.length c3))).setRow (q + 1 + 1 + 1) NX)) := Lib.hid (setRow_keptW _ _ _)
      have HBy : Hid ((((wD).setRow (q + 1 + 1) (stC (stH f f.h) (.slice a2 f.h.pl.length c2) (.slice a3 f.h.nl.length c3))).setRow (q + 1 + 1 + 1) NX).heap[q + 1 + 1]? = some (.cells (stC (stH f f.h) (.slice a2 f.h.pl.length c2) (.slice a3 f.h.nl.length c3)) 32 (0, 0)) ∧ (((wD).setRow (q + 1 + 1) (stC (stH f f.h) (.slice a2 f.h.pl.length c2) (.slice a3 f.h.nl.length c3))).setRow (q + 1 + 1 + 1) NX).heap[q + 1 + 1 + 1]? = some (.cells NX 37 (0, 0))) := Lib.hid ⟨HKy.out.same HBx.out.1 (by omega), setRow_heap _ _ _ _ _ _ HBx.out.2⟩
      have HSy : Hid ((fun w' => w'.heap[g10]? = some (.cells (stC (stH f f.h) (.slice a2 f.h.pl.length c2) (.slice a3 f.h.nl.length c3)) 32 (0, 0)) ∧ w'.heap[g11]? = some (.cells NX 37 (0, 0))) (((wD).setRow (q + 1 + 1) (stC (stH f f.h) (.slice a2 f.h.pl.length c2) (.slice a3 f.h.nl.length c3))).setRow (q + 1 + 1 + 1) NX)) := Lib.hid ⟨HKy.out.same HSx.out.1 (by have := (Array.getElem?_eq_some_iff.1 (HB4.out w4 (Kept.refl _ _)).2.2.2).1; have := HNJ.out.lt; omega), HKy.out.same HSx.out.2 (by have := (Array.getElem?_eq_some_iff.1 (HB4.out w4 (Kept.refl _ _)).2.2.2).1; have := HNJ.out.lt; omega)⟩
      refine hK.out _ _ (HSy.out) ?_
      clear hK K
      try simp only [Act.put, List.getElem_toArray, List.getElem_cons_succ, List.getElem_cons_zero]
      refine AnyBut.takeS (i := 4) (v := ?v12) rfl (by kernel_rfl) (Nat.le_of_eq (by kernel_rfl)) (by kernel_rfl) (by kernel_rfl) (fun _ _ _ h => h) (HSy.out) (Or.inl ⟨by kernel_rfl, ?hy12⟩) ?r12
      case hy12 =>
        intro w hSw
        try dsimp only at hSw
        go_simp
        try with_reducible rfl
      try simp only [Act.put, List.getElem_toArray, List.getElem_cons_succ, List.getElem_cons_zero, List.setIfInBounds_toArray, List.set_cons_zero, List.set_cons_succ]
      refine AnyBut.done (by kernel_rfl) ?_
      go_wp2
      refine bodyPost_ret (results_cct Try.results33 _ _ (q + 1 + 1) (q + 1 + 1 + 1) 32 37 _ _ (0, 0) (0, 0) _ _ rfl HBy.out.1 Try.underlying32 rfl state_info rfl HBy.out.2 Try.underlying37 rfl HIN.out.1) rfl ?_
      have n0 := HNJ.out.new.down HK04.out
      have n1 := n0.set (HB4.out (wD) HNJ.out.k).2.2.1 (by decide) (by decide) (by have := HGE.out; omega) HKx.out
      have hlast := n1.set HBx.out.2 (by decide) (by decide) (by have := HGE.out; omega) HKy.out
      have t1 := HNJ.out.st.set (HB4.out (wD) HNJ.out.k).2.2.1 (by decide) (by have := HGE.out; omega) HKx.out
      have t2 := t1.set HBx.out.2 (by decide) (by have := HGE.out; omega) HKy.out
      rw [HOW.out, HOS.out]
      refine ⟨_, _, _, rfl, t2, ?_⟩
      have hgp := GotP.parts (y := { f with temp := 2, flags := mv }) hlast ⟨rfl, rfl⟩
      rw [← HNX.out] at hgp
      exact hgp
end Go.Proofs.Ytiiibhdohlpodaa

