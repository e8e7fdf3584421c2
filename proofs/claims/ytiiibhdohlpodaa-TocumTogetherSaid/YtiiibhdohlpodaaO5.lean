/- Layer 15: Next, on whole sums (written by tools/gen_XO5.py). -/
import Derived.Test.YtiiibhdohlpodaaO4
namespace Go.Proofs.Ytiiibhdohlpodaa
open Go.RowKit
attribute [local go_sem ↓] Go.wp_at_zero Go.wp_at_succ

/-- A whole value is stored into a box. -/
theorem wpList_store_to {P : Program} {ops : Array Oper} {rest : List Oper} {o : Oper} {a : Act} {w : World} {Q : Exit → Act → World → Prop} (hgd : o.guard = none) (ty : TypeId) (x y : Operand) (ho : o.op = .store ty x y)
    (g : Nat) (cells : Array Value) (hx : a.eval x = .pointer (some ⟨g, 0, none⟩)) (hy : a.eval y = .agg cells) (t : TypeId) (old : Array Value) (hg : w.heap[g]? = some (.cells old t (0, 0)))
    (hi : (P.info? ty).map (·.size) = some cells.size) (hold : old.size = cells.size) (h1 : cells.all (·.oneCell') = true)
    (h : ∀ w', w'.heap[g]? = some (.cells cells t (0, 0)) → Kept (fun i => i = g) w w' → wpList P ops Q rest (a.put o.dst undef) w') : wpList P ops Q (o :: rest) a w :=
  wpList_store_row hgd ty x y ho g cells hx hy t old hg hi hold h1 (h _ (setRow_heap _ _ _ _ _ _ hg) (setRow_keptW _ _ _))
theorem box_there {w : World} {g : Nat} {cs : Array Value} {t : TypeId} (h : w.heap[g]? = some (.cells cs t (0, 0))) (o n : Nat) (hn : o + n ≤ cs.size) : w.there g o n := by
  intro j hj
  refine ⟨?_, free_of_rowZ _ h⟩
  rw [cell_rowZ (o + j) cs[o + j] h (Array.getElem?_eq_getElem (by omega))]
  rfl
theorem setCells6 {w : World} {g : Nat} {cs : Array Value} {t : TypeId} (h : w.heap[g]? = some (.cells cs t (0, 0))) (o : Nat) (a b c d e f : Value) :
    (w.setCells g o [a, b, c, d, e, f]).heap[g]? = some (.cells ((((((cs.setIfInBounds o a).setIfInBounds (o + 1) b).setIfInBounds (o + 1 + 1) c).setIfInBounds (o + 1 + 1 + 1) d).setIfInBounds (o + 1 + 1 + 1 + 1) e).setIfInBounds (o + 1 + 1 + 1 + 1 + 1) f) t (0, 0)) ∧ Kept (fun i => i = g) w (w.setCells g o [a, b, c, d, e, f]) := by
  simp only [World.setCells]
  exact ⟨heap_setCell_same _ _ _ _ _ _ (heap_setCell_same _ _ _ _ _ _ (heap_setCell_same _ _ _ _ _ _ (heap_setCell_same _ _ _ _ _ _ (heap_setCell_same _ _ _ _ _ _ (heap_setCell_same _ _ _ _ _ _ h))))),
    (((((((Kept.refl (fun i => i = g) w).setCell (p := ⟨g, _, none⟩) (fun _ => rfl) _).setCell (p := ⟨g, _, none⟩) (fun _ => rfl) _).setCell (p := ⟨g, _, none⟩) (fun _ => rfl) _).setCell (p := ⟨g, _, none⟩) (fun _ => rfl) _).setCell (p := ⟨g, _, none⟩) (fun _ => rfl) _).setCell (p := ⟨g, _, none⟩) (fun _ => rfl) _)⟩
theorem NewP.set {W w w' : World} {x : Pnt} {a1 a2 a3 : Option Addr} {c1 c2 c3 k : Nat} {cs : Array Value} {T : TypeId} (n : NewP W w x a1 a2 a3 c1 c2 c3) (hb : w.heap[k]? = some (.cells cs T (0, 0))) (h1 : 101 ≠ T) (h2 : 25 ≠ T) (h0 : W.heap.size ≤ k) (kk : Kept (fun i => i = k) w w') : NewP W w' x a1 a2 a3 c1 c2 c3 :=
  ⟨n.at_.keptS kk (fun _ e e2 => own_box n.at_.own hb h1 (e2 ▸ e)) (fun _ e => by rw [e]; exact h0), n.mp.keptS kk (fun _ e e2 => own_box n.mp.own hb h2 (e2 ▸ e)) (fun _ e => by rw [e]; exact h0), n.mn.keptS kk (fun _ e e2 => own_box n.mn.own hb h2 (e2 ▸ e)) (fun _ e => by rw [e]; exact h0)⟩
/-- The boxes of Next: the state that is to be, the answer. -/
structure NB (W w : World) (g10 g11 : Nat) (NS OX : Array Value) (x : Pnt) (a1 a2 a3 : Option Addr) (c1 c2 c3 : Nat) : Prop where
  k : Kept (fun _ => False) W w
  bn : w.heap[g10]? = some (.cells NS 32 (0, 0))
  bo : w.heap[g11]? = some (.cells OX 37 (0, 0))
  lt : W.heap.size ≤ g10 ∧ W.heap.size ≤ g11 ∧ g10 ≠ g11
  new : NewP W w x a1 a2 a3 c1 c2 c3
section
variable {W w w' : World} {g10 g11 : Nat} {NS OX NS' OX' : Array Value} {x : Pnt} {a1 a2 a3 : Option Addr} {c1 c2 c3 : Nat}
theorem NB.on (h : NB W w g10 g11 NS OX x a1 a2 a3 c1 c2 c3) (k : Kept (fun _ => False) w w') : NB W w' g10 g11 NS OX x a1 a2 a3 c1 c2 c3 := ⟨h.k.trans k, k.same h.bn (fun x => x), k.same h.bo (fun x => x), h.lt, h.new.on k⟩
theorem NB.out (h : NB W w g10 g11 NS OX x a1 a2 a3 c1 c2 c3) (kk : Kept (fun i => i = g11) w w') (hb : w'.heap[g11]? = some (.cells OX' 37 (0, 0))) : NB W w' g10 g11 NS OX' x a1 a2 a3 c1 c2 c3 :=
  ⟨h.k.newer kk (fun _ e => by rw [e]; exact h.lt.2.1), kk.same h.bn h.lt.2.2, hb, h.lt, h.new.set h.bo (by decide) (by decide) h.lt.2.1 kk⟩
theorem NB.next (h : NB W w g10 g11 NS OX x a1 a2 a3 c1 c2 c3) (kk : Kept (fun i => i = g10) w w') (hb : w'.heap[g10]? = some (.cells NS' 32 (0, 0))) : NB W w' g10 g11 NS' OX x a1 a2 a3 c1 c2 c3 :=
  ⟨h.k.newer kk (fun _ e => by rw [e]; exact h.lt.1), hb, kk.same h.bo (fun e => h.lt.2.2 e.symm), h.lt, h.new.set h.bn (by decide) (by decide) h.lt.1 kk⟩
theorem NB.put (h : NB W w g10 g11 NS OX x a1 a2 a3 c1 c2 c3) (i : Nat) (v : Value) (e : OX.setIfInBounds i v = OX') : NB W (w.setCell ⟨g11, i, none⟩ v) g10 g11 NS OX' x a1 a2 a3 c1 c2 c3 :=
  h.out ((Kept.refl (fun k => k = g11) w).setCell (p := ⟨g11, i, none⟩) (fun _ => rfl) _) (by rw [← e]; exact heap_setCell_same _ _ i _ _ _ h.bo)
end
/-- What a point makes of a state. -/
def nextS (s : StV) (x : Pnt) : StV := if stepE s x = 0 then stOf x else zeroSt
def nextP (s : StV) (x : Pnt) : Pnt := if stepE s x = 0 then outW s x else zeroPt
theorem lessW_parts (s : StV) (x : Pnt) : (lessW s x).L = x.L ∧ (lessW s x).h = x.h := by
  unfold lessW
  split
  · exact ⟨rfl, rfl⟩
  · split <;> exact ⟨rfl, rfl⟩
theorem outW_parts (s : StV) (x : Pnt) : (outW s x).L = x.L ∧ (outW s x).h = x.h := by
  unfold outW
  split
  · exact lessW_parts _ _
  · exact ⟨rfl, rfl⟩
theorem GotP.parts {W w : World} {x y : Pnt} {a1 a2 a3 : Option Addr} {c1 c2 c3 : Nat} (h : NewP W w x a1 a2 a3 c1 c2 c3) (e : y.L = x.L ∧ y.h = x.h) : GotP W w y (.agg (pntC y (.slice a1 x.L.length c1) (.slice a2 x.h.pl.length c2) (.slice a3 x.h.nl.length c3))) := by
  obtain ⟨e1, e2⟩ := e
  refine ⟨a1, a2, a3, c1, c2, c3, by rw [e1, e2]; rfl, ⟨?_, ?_, ?_⟩⟩
  · rw [e1]; exact h.at_
  · rw [e2]; exact h.mp
  · rw [e2]; exact h.mn
set_option maxHeartbeats 16000000 in
set_option maxRecDepth 100000 in
theorem next_any (s : StV) (sp sn : Value) (x : Pnt) (aa pa na : Option Addr) (ac pc nc : Nat) (most : Int) (w : World) (ha : PntAt w x aa ac (.slice pa x.h.pl.length pc) (.slice na x.h.nl.length nc)) (hok : x.ok) (hli : x.light) (hk : x.kind = 1) :
    Calls Try.prog 33 #[.agg (stC s sp sn), pntV x (.slice aa x.L.length ac) (.slice pa x.h.pl.length pc) (.slice na x.h.nl.length nc), .int .i64 most] w fun e w' =>
      ∃ tp tn v, e = .returned (.tuple #[.agg (stC (nextS s x) tp tn), v, .int .i64 (stepE s x)]) ∧ (tp.oneCell' = true ∧ tn.oneCell' = true) ∧ GotP w w' (nextP s x) v := by
  obtain ⟨CS, hCS⟩ : ∃ a, a = stC s sp sn := ⟨_, rfl⟩
  obtain ⟨CX, hCX⟩ : ∃ a, a = pntC x (.slice aa x.L.length ac) (.slice pa x.h.pl.length pc) (.slice na x.h.nl.length nc) := ⟨_, rfl⟩
  have hvx : pntV x (.slice aa x.L.length ac) (.slice pa x.h.pl.length pc) (.slice na x.h.nl.length nc) = .agg CX := by rw [hCX]; rfl
  rw [← hCS]
  have HIS : Hid ((Try.prog.info? 32).map (·.size) = some CS.size) := Lib.hid (state_info.trans (by rw [hCS]; rfl))
  have HIX : Hid ((Try.prog.info? 37).map (·.size) = some CX.size) := Lib.hid (point_info.trans (by rw [hCX]; rfl))
  have HSX : Hid (CX.size = 17) := Lib.hid (by rw [hCX]; rfl)
  have HCS := Lib.hid hCS
  obtain ⟨q, hq⟩ : ∃ q, q = w.heap.size := ⟨_, rfl⟩
  obtain ⟨w2, hw2⟩ : ∃ w2, w2 = (((w.alloc (.cells CS 32)).alloc (.cells CX 37)).alloc (.cells #[.bool false, .int .i64 0, .int .i64 0, .int .i64 0, .int .u64 0, .int .u64 0, .int .i64 0, .int .u64 0, .int .i64 0, .slice none 0 0, .int .i64 0, .slice none 0 0] 32)).alloc (.cells #[.string { data := #[] }, .slice none 0 0, .int .i64 0, .int .i64 0, .bool false, .int .i64 0, .int .i64 0, .int .i64 0, .int .u64 0, .int .u64 0, .int .i64 0, .int .u64 0, .int .i64 0, .slice none 0 0, .int .i64 0, .slice none 0 0, .int .i64 0] 37) := ⟨_, rfl⟩
  have k2 : Kept (fun _ => False) w w2 := by rw [hw2]; exact ((((Kept.refl _ _).alloc _).alloc _).alloc _).alloc _
  have hb : w2.heap[q]? = some (.cells CS 32 (0, 0)) ∧ w2.heap[q + 1]? = some (.cells CX 37 (0, 0)) ∧ w2.heap[q + 1 + 1]? = some (.cells #[.bool false, .int .i64 0, .int .i64 0, .int .i64 0, .int .u64 0, .int .u64 0, .int .i64 0, .int .u64 0, .int .i64 0, .slice none 0 0, .int .i64 0, .slice none 0 0] 32 (0, 0)) ∧ w2.heap[q + 1 + 1 + 1]? = some (.cells #[.string { data := #[] }, .slice none 0 0, .int .i64 0, .int .i64 0, .bool false, .int .i64 0, .int .i64 0, .int .i64 0, .int .u64 0, .int .u64 0, .int .i64 0, .int .u64 0, .int .i64 0, .slice none 0 0, .int .i64 0, .slice none 0 0, .int .i64 0] 37 (0, 0)) := by rw [hw2, hq]; exact alloc4 w _ _ _ _
  have HW2 := Lib.hid (And.intro hw2 hq)
  have HK02 := Lib.hid k2
  have HGE : Hid (w.heap.size ≤ q) := Lib.hid (by omega)
  have HB := Lib.hid hb
  have HBX : Hid (∀ w', Kept (fun _ => False) w2 w' → w'.heap[q]? = some (.cells CS 32 (0, 0)) ∧ w'.heap[q + 1]? = some (.cells CX 37 (0, 0)) ∧ w'.heap[q + 1 + 1]? = some (.cells #[.bool false, .int .i64 0, .int .i64 0, .int .i64 0, .int .u64 0, .int .u64 0, .int .i64 0, .int .u64 0, .int .i64 0, .slice none 0 0, .int .i64 0, .slice none 0 0] 32 (0, 0)) ∧ w'.heap[q + 1 + 1 + 1]? = some (.cells #[.string { data := #[] }, .slice none 0 0, .int .i64 0, .int .i64 0, .bool false, .int .i64 0, .int .i64 0, .int .i64 0, .int .u64 0, .int .u64 0, .int .i64 0, .int .u64 0, .int .i64 0, .slice none 0 0, .int .i64 0, .slice none 0 0, .int .i64 0] 37 (0, 0))) := Lib.hid (fun w' k => ⟨k.same HB.out.1 (fun x => x), k.same HB.out.2.1 (fun x => x), k.same HB.out.2.2.1 (fun x => x), k.same HB.out.2.2.2 (fun x => x)⟩)
  have HTK := Lib.hid (fun w' (k : Kept (fun _ => False) w2 w') => taken_any x aa pa na ac pc nc 1 most w' (ha.on (k2.trans k)) hok hli (by omega))
  rw [hvx] at HTK ⊢
  unfold nextS nextP
  by_cases hT : takenE x 1 = 0
  case neg =>
    have hse : stepE s x = ((takenE x 1 : Nat) : Int) := by unfold stepE; rw [if_pos hT]
    rw [hse, if_neg (by omega), if_neg (by omega)]
    obtain ⟨n, hn⟩ : ∃ n : Int, n = ((takenE x 1 : Nat) : Int) := ⟨_, rfl⟩
    rw [← hn] at HTK
    rw [← hn]
    have q1 : (n == 0) = false := by rw [beq_eq_false_iff_ne]; omega
    have q2 : (n != 0) = true := by rw [bne_iff_ne]; omega
    clear hn hse hT hw2 hq k2 hb hCX hvx ha hok hli hk hCS
    go_enter Try.func33, Try.ntmps33
    go_upto_region 1 with fail
    rw [← HW2.out.1, ← HW2.out.2]
    go_wp2_with (first
      | (refine wpList_load_row rfl 37 (.tmp 4) rfl (q + 1) rfl 37 _ (0, 0) _ HB.out.2.1 Try.underlying37 rfl HIX.out ?_)
      | fail)
    refine (HTK.out w2 (Kept.refl _ _)).mono ?_
    rintro e w3 ⟨v, rfl, g3⟩
    have HG3 := Lib.hid g3
    obtain ⟨CY, rfl, hi, hs, h1⟩ := g3.cells
    have HIY := Lib.hid hi
    have HSY := Lib.hid (And.intro hs h1)
    have HK3 := Lib.hid g3.kept
    clear g3 hi hs h1
    go_upto_region 2 with (refine wpList_store_to rfl 37 (.tmp 4) _ rfl (q + 1) CY rfl rfl 37 CX (HBX.out w3 HK3.out).2.1 HIY.out (by rw [HSX.out, HSY.out.1]) HSY.out.2 ?_; intro w4 hb4 k4; have HB4 : Hid (∀ w', Kept (fun _ => False) w4 w' → w'.heap[q]? = some (.cells CS 32 (0, 0)) ∧ w'.heap[q + 1]? = some (.cells CY 37 (0, 0)) ∧ w'.heap[q + 1 + 1]? = some (.cells #[.bool false, .int .i64 0, .int .i64 0, .int .i64 0, .int .u64 0, .int .u64 0, .int .i64 0, .int .u64 0, .int .i64 0, .slice none 0 0, .int .i64 0, .slice none 0 0] 32 (0, 0)) ∧ w'.heap[q + 1 + 1 + 1]? = some (.cells #[.string { data := #[] }, .slice none 0 0, .int .i64 0, .int .i64 0, .bool false, .int .i64 0, .int .i64 0, .int .i64 0, .int .u64 0, .int .u64 0, .int .i64 0, .int .u64 0, .int .i64 0, .slice none 0 0, .int .i64 0, .slice none 0 0, .int .i64 0] 37 (0, 0))) := Lib.hid (fun w' k => ⟨k.same (k4.same (HBX.out w3 HK3.out).1 (by omega)) (fun x => x), k.same hb4 (fun x => x), k.same (k4.same (HBX.out w3 HK3.out).2.2.1 (by omega)) (fun x => x), k.same (k4.same (HBX.out w3 HK3.out).2.2.2 (by omega)) (fun x => x)⟩); have HK04 := Lib.hid ((HK02.out.trans HK3.out).newer k4 (fun i e => by have := HGE.out; omega)); clear hb4 k4)
    go_wp2_with (first
      | (refine wpList_store_row rfl 32 (.tmp 6) _ rfl (q + 1 + 1) #[.bool false, .int .i64 0, .int .i64 0, .int .i64 0, .int .u64 0, .int .u64 0, .int .i64 0, .int .u64 0, .int .i64 0, .slice none 0 0, .int .i64 0, .slice none 0 0] rfl rfl 32 _ (HB4.out w4 (Kept.refl _ _)).2.2.1 state_info rfl (stC_one (s := zeroSt) ⟨rfl, rfl⟩) ?_)
      | (refine wpList_store_row rfl 37 (.tmp 7) _ rfl (q + 1 + 1 + 1) #[.string { data := #[] }, .slice none 0 0, .int .i64 0, .int .i64 0, .bool false, .int .i64 0, .int .i64 0, .int .i64 0, .int .u64 0, .int .u64 0, .int .i64 0, .int .u64 0, .int .i64 0, .slice none 0 0, .int .i64 0, .slice none 0 0, .int .i64 0] rfl rfl 37 _ ((setRow_keptW _ _ _).same (HB4.out w4 (Kept.refl _ _)).2.2.2 (by omega)) point_info rfl (pntC_one' (x := zeroPt) (ones_slices _ _ _ _ _ _ _ _ _)) ?_)
      | fail)
    have kz1 : Kept (fun i => i = q + 1 + 1) w4 (w4.setRow (q + 1 + 1) #[.bool false, .int .i64 0, .int .i64 0, .int .i64 0, .int .u64 0, .int .u64 0, .int .i64 0, .int .u64 0, .int .i64 0, .slice none 0 0, .int .i64 0, .slice none 0 0]) := setRow_keptW _ _ _
    have kz2 : Kept (fun i => i = q + 1 + 1 + 1) (w4.setRow (q + 1 + 1) #[.bool false, .int .i64 0, .int .i64 0, .int .i64 0, .int .u64 0, .int .u64 0, .int .i64 0, .int .u64 0, .int .i64 0, .slice none 0 0, .int .i64 0, .slice none 0 0]) ((w4.setRow (q + 1 + 1) #[.bool false, .int .i64 0, .int .i64 0, .int .i64 0, .int .u64 0, .int .u64 0, .int .i64 0, .int .u64 0, .int .i64 0, .slice none 0 0, .int .i64 0, .slice none 0 0]).setRow (q + 1 + 1 + 1) #[.string { data := #[] }, .slice none 0 0, .int .i64 0, .int .i64 0, .bool false, .int .i64 0, .int .i64 0, .int .i64 0, .int .u64 0, .int .u64 0, .int .i64 0, .int .u64 0, .int .i64 0, .slice none 0 0, .int .i64 0, .slice none 0 0, .int .i64 0]) := setRow_keptW _ _ _
    refine bodyPost_ret (results_cct Try.results33 _ _ (q + 1 + 1) (q + 1 + 1 + 1) 32 37 _ _ (0, 0) (0, 0) _ _ rfl (kz2.same (setRow_heap _ _ _ _ _ _ (HB4.out w4 (Kept.refl _ _)).2.2.1) (by omega)) Try.underlying32 rfl state_info rfl (setRow_heap _ _ _ _ _ _ (kz1.same (HB4.out w4 (Kept.refl _ _)).2.2.2 (by omega))) Try.underlying37 rfl point_info) rfl ?_
    exact ⟨.slice none 0 0, .slice none 0 0, _, rfl, ⟨rfl, rfl⟩, GotP.zero (((HK04.out.trans (Kept.refl _ _)).newer kz1 (fun i e => by have := HGE.out; omega)).newer kz2 (fun i e => by have := HGE.out; omega))⟩
  rw [hT, if_pos rfl] at HTK
  have hse : stepE s x = if s.some = true then lateI s x else 0 := by unfold stepE; rw [if_neg (by omega)]
  have HLT := Lib.hid (fun av pv nv w => late_any s sp sn x av pv nv w)
  have HMV := Lib.hid (fun av pv nv w => moved_any s sp sn x av pv nv w)
  have HCL := Lib.hid (fun aa pa na ac pc nc w' ha => pclone_got x aa pa na ac pc nc w' ha hli)
  have HLS := Lib.hid (fun y a b e n c m d k f w (h : y.kind = 1) => lessP_any s sp sn y _ _ _ w (ones_slices a b e n c m d k f) h)
  rw [← hCS] at HLT HMV HLS
  have HKI := Lib.hid hk
  clear hT hw2 hq k2 hb hCX hvx ha hok hli hk hCS
  cases hsm : s.some with
  | false =>
    rw [show stepE s x = 0 by rw [hse, hsm]; rfl, if_pos rfl, if_pos rfl]
    clear hse
    go_enter Try.func33, Try.ntmps33
    go_upto_region 1 with fail
    rw [← HW2.out.1, ← HW2.out.2]
    go_wp2_with (first
      | (refine wpList_load_row rfl 37 (.tmp 4) rfl (q + 1) rfl 37 _ (0, 0) _ HB.out.2.1 Try.underlying37 rfl HIX.out ?_)
      | fail)
    refine (HTK.out w2 (Kept.refl _ _)).mono ?_
    rintro e w3 ⟨v, rfl, g3⟩
    have HG3 := Lib.hid g3
    obtain ⟨CY, rfl, hi, hs, h1⟩ := g3.cells
    have HIY := Lib.hid hi
    have HSY := Lib.hid (And.intro hs h1)
    have HK3 := Lib.hid g3.kept
    clear g3 hi hs h1
    go_upto_region 2 with (refine wpList_store_to rfl 37 (.tmp 4) _ rfl (q + 1) CY rfl rfl 37 CX (HBX.out w3 HK3.out).2.1 HIY.out (by rw [HSX.out, HSY.out.1]) HSY.out.2 ?_; intro w4 hb4 k4; have HB4 : Hid (∀ w', Kept (fun _ => False) w4 w' → w'.heap[q]? = some (.cells CS 32 (0, 0)) ∧ w'.heap[q + 1]? = some (.cells CY 37 (0, 0)) ∧ w'.heap[q + 1 + 1]? = some (.cells #[.bool false, .int .i64 0, .int .i64 0, .int .i64 0, .int .u64 0, .int .u64 0, .int .i64 0, .int .u64 0, .int .i64 0, .slice none 0 0, .int .i64 0, .slice none 0 0] 32 (0, 0)) ∧ w'.heap[q + 1 + 1 + 1]? = some (.cells #[.string { data := #[] }, .slice none 0 0, .int .i64 0, .int .i64 0, .bool false, .int .i64 0, .int .i64 0, .int .i64 0, .int .u64 0, .int .u64 0, .int .i64 0, .int .u64 0, .int .i64 0, .slice none 0 0, .int .i64 0, .slice none 0 0, .int .i64 0] 37 (0, 0))) := Lib.hid (fun w' k => ⟨k.same (k4.same (HBX.out w3 HK3.out).1 (by omega)) (fun x => x), k.same hb4 (fun x => x), k.same (k4.same (HBX.out w3 HK3.out).2.2.1 (by omega)) (fun x => x), k.same (k4.same (HBX.out w3 HK3.out).2.2.2 (by omega)) (fun x => x)⟩); have HK04 := Lib.hid ((HK02.out.trans HK3.out).newer k4 (fun i e => by have := HGE.out; omega)); have HN4 : Hid (GotP w w4 x (.agg CY)) := Lib.hid (by obtain ⟨a1, a2, a3, c1, c2, c3, e, n⟩ := HG3.out; exact ⟨a1, a2, a3, c1, c2, c3, e, (n.down HK02.out).set (HBX.out w3 HK3.out).2.1 (by decide) (by decide) (by have := HGE.out; omega) k4⟩); have s0 : w4.cell? ⟨q, 0, none⟩ = some (.bool false) := cell_rowZ 0 _ (HB4.out w4 (Kept.refl _ _)).1 (by rw [HCS.out, ← hsm]; rfl); clear hb4 k4)
    obtain ⟨a1, a2, a3, c1, c2, c3, hvy, n4⟩ := HN4.out
    have HCY : Hid (CY = pntC x (.slice a1 x.L.length c1) (.slice a2 x.h.pl.length c2) (.slice a3 x.h.nl.length c3)) := Lib.hid (by injection hvy)
    have HVY : Hid (pntV x (.slice a1 x.L.length c1) (.slice a2 x.h.pl.length c2) (.slice a3 x.h.nl.length c3) = .agg CY) := Lib.hid hvy.symm
    have HPN := Lib.hid (fun w' (k : Kept (fun _ => False) w4 w') => n4.pnt.on k)
    clear hvy n4
    clear hsm
    have HKR : Hid (Kept (fun _ => False) w4 w4) := Lib.hid (Kept.refl _ _)
    go_upto_region 6 with fail
    clear s0
    have p5 : w4.cell? ⟨q + 1, 5, none⟩ = some (.int .i64 x.start) := cell_rowZ 5 _ (HB4.out w4 HKR.out).2.1 (by rw [HCY.out]; rfl)
    have p6 : w4.cell? ⟨q + 1, 6, none⟩ = some (.int .i64 x.time) := cell_rowZ 6 _ (HB4.out w4 HKR.out).2.1 (by rw [HCY.out]; rfl)
    have p7 : w4.cell? ⟨q + 1, 7, none⟩ = some (.int .i64 x.whole) := cell_rowZ 7 _ (HB4.out w4 HKR.out).2.1 (by rw [HCY.out]; rfl)
    have p8 : w4.cell? ⟨q + 1, 8, none⟩ = some (.int .u64 x.re) := cell_rowZ 8 _ (HB4.out w4 HKR.out).2.1 (by rw [HCY.out]; rfl)
    have p9 : w4.cell? ⟨q + 1, 9, none⟩ = some (.int .u64 x.im) := cell_rowZ 9 _ (HB4.out w4 HKR.out).2.1 (by rw [HCY.out]; rfl)
    have p10 : w4.cell? ⟨q + 1, 10, none⟩ = some (.int .i64 x.h.sc) := cell_rowZ 10 _ (HB4.out w4 HKR.out).2.1 (by rw [HCY.out]; rfl)
    have p11 : w4.cell? ⟨q + 1, 11, none⟩ = some (.int .u64 (x.h.ze : Int)) := cell_rowZ 11 _ (HB4.out w4 HKR.out).2.1 (by rw [HCY.out]; rfl)
    have p12 : w4.cell? ⟨q + 1, 12, none⟩ = some (.int .i64 x.h.po) := cell_rowZ 12 _ (HB4.out w4 HKR.out).2.1 (by rw [HCY.out]; rfl)
    have p13 : w4.cell? ⟨q + 1, 13, none⟩ = some (.slice a2 x.h.pl.length c2) := cell_rowZ 13 _ (HB4.out w4 HKR.out).2.1 (by rw [HCY.out]; rfl)
    have p14 : w4.cell? ⟨q + 1, 14, none⟩ = some (.int .i64 x.h.no) := cell_rowZ 14 _ (HB4.out w4 HKR.out).2.1 (by rw [HCY.out]; rfl)
    have p15 : w4.cell? ⟨q + 1, 15, none⟩ = some (.slice a3 x.h.nl.length c3) := cell_rowZ 15 _ (HB4.out w4 HKR.out).2.1 (by rw [HCY.out]; rfl)
    obtain ⟨g10, hg10⟩ : ∃ g, g = w4.heap.size := ⟨_, rfl⟩
    have HG10 := Lib.hid hg10
    clear hg10
    go_upto_region 7 with (refine wpList_store_box rfl 32 (.tmp 10) _ rfl w4 _ (stC (stOf x) (.slice a2 x.h.pl.length c2) (.slice a3 x.h.nl.length c3)) 32 rfl rfl rfl state_info rfl (stC_one ⟨rfl, rfl⟩) ?_; intro w6 hb6 k6; have HB6 : Hid (w6.heap[g10]? = some (.cells (stC (stOf x) (.slice a2 x.h.pl.length c2) (.slice a3 x.h.nl.length c3)) 32 (0, 0))) := Lib.hid (by rw [HG10.out]; exact hb6); have HK6 := Lib.hid (HKR.out.trans k6); clear hb6 k6)
    clear p5 p6 p7 p8 p9 p10 p11 p12 p13 p14 p15
    rw [← HG10.out]
    go_wp2_with (first
      | (refine wpList_load_row rfl 37 (.tmp 4) rfl (q + 1) rfl 37 _ (0, 0) _ (HB4.out w6 HK6.out).2.1 Try.underlying37 rfl HIY.out ?_)
      | fail)
    rw [← HVY.out]
    refine (HCL.out a1 a2 a3 c1 c2 c3 w6 (HPN.out w6 HK6.out)).mono ?_
    rintro e w7 ⟨v, rfl, g7⟩
    obtain ⟨d1, d2, d3, e1, e2, e3, rfl, n7⟩ := g7
    obtain ⟨OX, hOX⟩ : ∃ a, a = pntC x (.slice d1 x.L.length e1) (.slice d2 x.h.pl.length e2) (.slice d3 x.h.nl.length e3) := ⟨_, rfl⟩
    have hvo : pntV x (.slice d1 x.L.length e1) (.slice d2 x.h.pl.length e2) (.slice d3 x.h.nl.length e3) = .agg OX := by rw [hOX]; rfl
    rw [hvo]
    have HIO : Hid ((Try.prog.info? 37).map (·.size) = some OX.size) := Lib.hid (point_info.trans (by rw [hOX]; rfl))
    have HSO : Hid (OX.size = 17 ∧ OX.all (·.oneCell') = true) := Lib.hid (by rw [hOX]; exact ⟨rfl, pntC_one' (ones_slices _ _ _ _ _ _ _ _ _)⟩)
    have HN7 := Lib.hid n7
    have HOX := Lib.hid hOX
    obtain ⟨g11, hg11⟩ : ∃ g, g = w7.heap.size := ⟨_, rfl⟩
    have HG11 := Lib.hid hg11
    clear n7 hOX hg11 hvo
    go_upto_region 8 with (refine wpList_store_box rfl 37 (.tmp 11) _ rfl w7 _ OX 37 rfl rfl rfl HIO.out (by rw [HSO.out.1]; rfl) HSO.out.2 ?_; intro w8 hb8 k8; have HNB : Hid (NB w4 w8 g10 g11 (stC (stOf x) (.slice a2 x.h.pl.length c2) (.slice a3 x.h.nl.length c3)) (pntC x (.slice d1 x.L.length e1) (.slice d2 x.h.pl.length e2) (.slice d3 x.h.nl.length e3)) x d1 d2 d3 e1 e2 e3) := Lib.hid ⟨(HK6.out.trans HN7.out.at_.kept).trans k8, k8.same (HN7.out.at_.kept.same HB6.out (fun x => x)) (fun x => x), by rw [← HOX.out, HG11.out]; exact hb8, ⟨by have := HG10.out; have := HKR.out.size; omega, by have := HG11.out; have := HK6.out.size; have := HN7.out.at_.kept.size; omega, by have := HG10.out; have := HG11.out; have := (Array.getElem?_eq_some_iff.1 HB6.out).1; have := HN7.out.at_.kept.size; omega⟩, (HN7.out.on k8).down HK6.out⟩; clear hb8 k8)
    rw [← HG11.out]
    clear HN7 HOX HSO HIO HB6
    have c3 : w8.cell? ⟨g11, 3, none⟩ = some (.int .i64 x.temp) := cell_rowZ 3 _ HNB.out.bo rfl
    have f3 := free_of_rowZ 3 HNB.out.bo
    go_upto_region 9 with fail
    clear c3 f3
    have HNC := Lib.hid (HNB.out.put 3 (.int .i64 2) (OX' := pntC { x with temp := 2 } (.slice d1 x.L.length e1) (.slice d2 x.h.pl.length e2) (.slice d3 x.h.nl.length e3)) rfl)
    clear HNB
    obtain ⟨w9, hw9⟩ : ∃ w', w' = w8.setCell ⟨g11, 3, none⟩ (.int .i64 2) := ⟨_, rfl⟩
    rw [← hw9] at HNC
    rw [← hw9]
    clear hw9
    go_wp2_with (first
      | (refine wpList_load_row rfl 32 (.tmp 3) rfl q rfl 32 _ (0, 0) _ (HB4.out w9 HNC.out.k).1 Try.underlying32 rfl HIS.out ?_)
      | (refine wpList_load_row rfl 37 (.tmp 4) rfl (q + 1) rfl 37 _ (0, 0) _ (HB4.out w9 HNC.out.k).2.1 Try.underlying37 rfl HIY.out ?_)
      | fail)
    rw [HCY.out]
    refine (HMV.out _ _ _ w9).mono ?_
    rintro e w10 ⟨rfl, k10⟩
    have HND := Lib.hid (HNC.out.on k10)
    clear k10 HNC
    rw [← HCY.out]
    have c16 : w10.cell? ⟨g11, 16, none⟩ = some (.int .i64 x.flags) := cell_rowZ 16 _ HND.out.bo rfl
    have f16 := free_of_rowZ 16 HND.out.bo
    go_upto_region 10 with fail
    clear c16 f16
    have HNE := Lib.hid (HND.out.put 16 (.int .i64 (movedI s x)) (OX' := pntC { x with temp := 2, flags := movedI s x } (.slice d1 x.L.length e1) (.slice d2 x.h.pl.length e2) (.slice d3 x.h.nl.length e3)) rfl)
    clear HND
    obtain ⟨w11, hw11⟩ : ∃ w', w' = w10.setCell ⟨g11, 16, none⟩ (.int .i64 (movedI s x)) := ⟨_, rfl⟩
    rw [← hw11] at HNE
    rw [← hw11]
    clear hw11
    have c16 : w11.cell? ⟨g11, 16, none⟩ = some (.int .i64 (movedI s x)) := cell_rowZ 16 _ HNE.out.bo rfl
    by_cases hm : movedI s x = 0
    · have HOW : Hid (outW s x = lessW s { x with temp := 2, flags := 0, start := s.time }) := Lib.hid (by unfold outW; rw [if_pos hm])
      rw [hm] at c16 HNE
      rw [hm]
      have c2 : w11.cell? ⟨q, 2, none⟩ = some (.int .i64 s.time) := cell_rowZ 2 _ (HB4.out w11 HNE.out.k).1 (by rw [HCS.out]; rfl)
      have c5 : w11.cell? ⟨g11, 5, none⟩ = some (.int .i64 x.start) := cell_rowZ 5 _ HNE.out.bo rfl
      have f5 := free_of_rowZ 5 HNE.out.bo
      clear hm
      go_upto_region 12 with fail
      clear c2 c5 f5 c16
      have HNF := Lib.hid (HNE.out.put 5 (.int .i64 s.time) (OX' := pntC { x with temp := 2, flags := 0, start := s.time } (.slice d1 x.L.length e1) (.slice d2 x.h.pl.length e2) (.slice d3 x.h.nl.length e3)) rfl)
      clear HNE
      obtain ⟨w12, hw12⟩ : ∃ w', w' = w11.setCell ⟨g11, 5, none⟩ (.int .i64 s.time) := ⟨_, rfl⟩
      rw [← hw12] at HNF
      rw [← hw12]
      clear hw12
      obtain ⟨OY, hOY⟩ : ∃ a, a = pntC { x with temp := 2, flags := 0, start := s.time } (.slice d1 x.L.length e1) (.slice d2 x.h.pl.length e2) (.slice d3 x.h.nl.length e3) := ⟨_, rfl⟩
      have HIO : Hid ((Try.prog.info? 37).map (·.size) = some OY.size) := Lib.hid (point_info.trans (by rw [hOY]; rfl))
      rw [← hOY] at HNF
      have HL1 := Lib.hid (fun w => HLS.out { x with temp := 2, flags := 0, start := s.time } d1 d2 d3 x.L.length e1 x.h.pl.length e2 x.h.nl.length e3 w HKI.out)
      rw [← hOY] at HL1
      obtain ⟨NX, hNX⟩ : ∃ a, a = pntC (lessW s { x with temp := 2, flags := 0, start := s.time }) (.slice d1 x.L.length e1) (.slice d2 x.h.pl.length e2) (.slice d3 x.h.nl.length e3) := ⟨_, rfl⟩
      rw [← hNX] at HL1
      have HIN : Hid ((Try.prog.info? 37).map (·.size) = some NX.size) := Lib.hid (point_info.trans (by rw [hNX]; rfl))
      have HSN : Hid (OY.size = NX.size ∧ NX.all (·.oneCell') = true) := Lib.hid (by rw [hNX, hOY]; exact ⟨rfl, pntC_one' (ones_slices _ _ _ _ _ _ _ _ _)⟩)
      have HNX := Lib.hid hNX
      clear hNX hOY
      go_wp2_with (first
        | (refine wpList_load_row rfl 32 (.tmp 3) rfl q rfl 32 _ (0, 0) _ (HB4.out w12 HNF.out.k).1 Try.underlying32 rfl HIS.out ?_)
        | (refine wpList_load_row rfl 37 (.tmp 11) rfl g11 rfl 37 _ (0, 0) _ HNF.out.bo Try.underlying37 rfl HIO.out ?_)
        | fail)
      refine (HL1.out w12).mono ?_
      rintro e w13 ⟨rfl, k13⟩
      have HNG := Lib.hid (HNF.out.on k13)
      clear k13 HNF
      go_upto_region 13 with (first | (refine wpList_store_to rfl 37 (.tmp 11) _ rfl g11 NX rfl rfl 37 OY HNG.out.bo HIN.out HSN.out.1 HSN.out.2 ?_; intro w14 hb14 k14; have HNH := Lib.hid (HNG.out.out k14 hb14); clear hb14 k14) | (refine wpList_store_mid rfl 30 (.tmp 64) _ rfl g10 6 #[.int .i64 x.h.sc, .int .u64 (x.h.ze : Int), .int .i64 x.h.po, .slice d2 x.h.pl.length e2, .int .i64 x.h.no, .slice d3 x.h.nl.length e3] rfl rfl (box_there HNH.out.bn 6 6 (Nat.le_refl 12)) hist_info (histC_one ⟨rfl, rfl⟩) ?_))
      have HNI := Lib.hid (HNH.out.next (setCells6 HNH.out.bn 6 (.int .i64 x.h.sc) (.int .u64 (x.h.ze : Int)) (.int .i64 x.h.po) (.slice d2 x.h.pl.length e2) (.int .i64 x.h.no) (.slice d3 x.h.nl.length e3)).2 (NS' := stC (stOf x) (.slice d2 x.h.pl.length e2) (.slice d3 x.h.nl.length e3)) (setCells6 HNH.out.bn 6 (.int .i64 x.h.sc) (.int .u64 (x.h.ze : Int)) (.int .i64 x.h.po) (.slice d2 x.h.pl.length e2) (.int .i64 x.h.no) (.slice d3 x.h.nl.length e3)).1)
      clear HNG HNH
      obtain ⟨w15, hw15⟩ : ∃ w', w' = World.setCells w14 g10 6 [.int .i64 x.h.sc, .int .u64 (x.h.ze : Int), .int .i64 x.h.po, .slice d2 x.h.pl.length e2, .int .i64 x.h.no, .slice d3 x.h.nl.length e3] := ⟨_, rfl⟩
      rw [← hw15] at HNI
      have hw15' := hw15.symm
      first | rw [← hw15] | (show Code.wp _ _ _ w15 _) | skip
      clear hw15 hw15'
      have HNZ : Hid (NX.size = 17) := Lib.hid (by rw [HNX.out]; rfl)
      have HKD := Lib.hid ((Kept.refl (fun _ => False) w15).drew)
      have HNJ := Lib.hid (HNI.out.on HKD.out)
      have HS0 : Hid ((fun w' => w'.heap[g10]? = some (.cells (stC (stOf x) (.slice d2 x.h.pl.length e2) (.slice d3 x.h.nl.length e3)) 32 (0, 0)) ∧ w'.heap[g11]? = some (.cells NX 37 (0, 0))) (w15.drew)) := Lib.hid ⟨HNJ.out.bn, HNJ.out.bo⟩
      go_upto_region 13 with fail
      refine AnyBut.start (S := fun w' => w'.heap[g10]? = some (.cells (stC (stOf x) (.slice d2 x.h.pl.length e2) (.slice d3 x.h.nl.length e3)) 32 (0, 0)) ∧ w'.heap[g11]? = some (.cells NX 37 (0, 0))) (k := 5) (by kernel_rfl) ?_
      refine AnyBut.takeS (i := 0) (v := ?v1) rfl (by kernel_rfl) (Nat.le_of_eq (by kernel_rfl)) (by kernel_rfl) (by kernel_rfl) (fun _ _ _ h => h) (HS0.out) (Or.inl ⟨by kernel_rfl, ?hy1⟩) ?r1
      case hy1 =>
        intro w hSw
        try dsimp only at hSw
        refine exec_load_row 32 (.tmp 10) ?_ g10 ?_ 32 _ (0, 0) _ hSw.1 Try.underlying32 rfl state_info
        · rfl
        · rfl
      try simp only [Act.put, List.getElem_toArray, List.getElem_cons_zero, List.setIfInBounds_toArray, List.set_cons_zero, List.set_cons_succ]
      refine AnyBut.takeS (i := 1) (v := ?v2) rfl (by kernel_rfl) (Nat.le_of_eq (by kernel_rfl)) (by kernel_rfl) (by kernel_rfl) (fun _ _ _ h => h) (HS0.out) (Or.inl ⟨by kernel_rfl, ?hy2⟩) ?r2
      case hy2 =>
        intro w hSw
        try dsimp only at hSw
        refine exec_load_row 37 (.tmp 11) ?_ g11 ?_ 37 _ (0, 0) _ hSw.2 Try.underlying37 rfl HIN.out
        · rfl
        · rfl
      try simp only [Act.put, List.getElem_toArray, List.getElem_cons_succ, List.getElem_cons_zero, List.setIfInBounds_toArray, List.set_cons_zero, List.set_cons_succ]
      refine AnyBut.one (i := 2) (by kernel_rfl) rfl (fun K hK => ?_)
      refine step_store_row (by rfl) 32 (.tmp 6) (.tmp 65) (by rfl) (q + 1 + 1) (stC (stOf x) (.slice d2 x.h.pl.length e2) (.slice d3 x.h.nl.length e3)) (by rfl) (by rfl) 32 #[.bool false, .int .i64 0, .int .i64 0, .int .i64 0, .int .u64 0, .int .u64 0, .int .i64 0, .int .u64 0, .int .i64 0, .slice none 0 0, .int .i64 0, .slice none 0 0] (HB4.out (w15.drew) HNJ.out.k).2.2.1 state_info rfl (stC_one ⟨rfl, rfl⟩) ?_
      have HKx : Hid (Kept (fun i => i = q + 1 + 1) (w15.drew) ((w15.drew).setRow (q + 1 + 1) (stC (stOf x) (.slice d2 x.h.pl.length e2) (.slice d3 x.h.nl.length e3)))) := Lib.hid (setRow_keptW _ _ _)
      have HBx : Hid (((w15.drew).setRow (q + 1 + 1) (stC (stOf x) (.slice d2 x.h.pl.length e2) (.slice d3 x.h.nl.length e3))).heap[q + 1 + 1]? = some (.cells (stC (stOf x) (.slice d2 x.h.pl.length e2) (.slice d3 x.h.nl.length e3)) 32 (0, 0)) ∧ ((w15.drew).setRow (q + 1 + 1) (stC (stOf x) (.slice d2 x.h.pl.length e2) (.slice d3 x.h.nl.length e3))).heap[q + 1 + 1 + 1]? = some (.cells #[.string { data := #[] }, .slice none 0 0, .int .i64 0, .int .i64 0, .bool false, .int .i64 0, .int .i64 0, .int .i64 0, .int .u64 0, .int .u64 0, .int .i64 0, .int .u64 0, .int .i64 0, .slice none 0 0, .int .i64 0, .slice none 0 0, .int .i64 0] 37 (0, 0))) := Lib.hid ⟨setRow_heap _ _ _ _ _ _ (HB4.out (w15.drew) HNJ.out.k).2.2.1, HKx.out.same (HB4.out (w15.drew) HNJ.out.k).2.2.2 (by omega)⟩
      have HSx : Hid ((fun w' => w'.heap[g10]? = some (.cells (stC (stOf x) (.slice d2 x.h.pl.length e2) (.slice d3 x.h.nl.length e3)) 32 (0, 0)) ∧ w'.heap[g11]? = some (.cells NX 37 (0, 0))) ((w15.drew).setRow (q + 1 + 1) (stC (stOf x) (.slice d2 x.h.pl.length e2) (.slice d3 x.h.nl.length e3)))) := Lib.hid ⟨HKx.out.same HS0.out.1 (by have := (Array.getElem?_eq_some_iff.1 (HB4.out w4 (Kept.refl _ _)).2.2.2).1; have := HNJ.out.lt; omega), HKx.out.same HS0.out.2 (by have := (Array.getElem?_eq_some_iff.1 (HB4.out w4 (Kept.refl _ _)).2.2.2).1; have := HNJ.out.lt; omega)⟩
      refine hK.out _ _ (HSx.out) ?_
      clear hK K
      try simp only [Act.put, List.getElem_toArray, List.getElem_cons_succ, List.getElem_cons_zero]
      refine AnyBut.one (i := 3) (by kernel_rfl) rfl (fun K hK => ?_)
      refine step_store_row (by rfl) 37 (.tmp 7) (.tmp 66) (by rfl) (q + 1 + 1 + 1) NX (by rfl) (by rfl) 37 #[.string { data := #[] }, .slice none 0 0, .int .i64 0, .int .i64 0, .bool false, .int .i64 0, .int .i64 0, .int .i64 0, .int .u64 0, .int .u64 0, .int .i64 0, .int .u64 0, .int .i64 0, .slice none 0 0, .int .i64 0, .slice none 0 0, .int .i64 0] HBx.out.2 HIN.out (by rw [HNZ.out]; rfl) HSN.out.2 ?_
      have HKy : Hid (Kept (fun i => i = q + 1 + 1 + 1) ((w15.drew).setRow (q + 1 + 1) (stC (stOf x) (.slice d2 x.h.pl.length e2) (.slice d3 x.h.nl.length e3))) (((w15.drew).setRow (q + 1 + 1) (stC (stOf x) (.slice d2 x.h.pl.length e2) (.slice d3 x.h.nl.length e3))).setRow (q + 1 + 1 + 1) NX)) := Lib.hid (setRow_keptW _ _ _)
      have HBy : Hid ((((w15.drew).setRow (q + 1 + 1) (stC (stOf x) (.slice d2 x.h.pl.length e2) (.slice d3 x.h.nl.length e3))).setRow (q + 1 + 1 + 1) NX).heap[q + 1 + 1]? = some (.cells (stC (stOf x) (.slice d2 x.h.pl.length e2) (.slice d3 x.h.nl.length e3)) 32 (0, 0)) ∧ (((w15.drew).setRow (q + 1 + 1) (stC (stOf x) (.slice d2 x.h.pl.length e2) (.slice d3 x.h.nl.length e3))).setRow (q + 1 + 1 + 1) NX).heap[q + 1 + 1 + 1]? = some (.cells NX 37 (0, 0))) := Lib.hid ⟨HKy.out.same HBx.out.1 (by omega), setRow_heap _ _ _ _ _ _ HBx.out.2⟩
      have HSy : Hid ((fun w' => w'.heap[g10]? = some (.cells (stC (stOf x) (.slice d2 x.h.pl.length e2) (.slice d3 x.h.nl.length e3)) 32 (0, 0)) ∧ w'.heap[g11]? = some (.cells NX 37 (0, 0))) (((w15.drew).setRow (q + 1 + 1) (stC (stOf x) (.slice d2 x.h.pl.length e2) (.slice d3 x.h.nl.length e3))).setRow (q + 1 + 1 + 1) NX)) := Lib.hid ⟨HKy.out.same HSx.out.1 (by have := (Array.getElem?_eq_some_iff.1 (HB4.out w4 (Kept.refl _ _)).2.2.2).1; have := HNJ.out.lt; omega), HKy.out.same HSx.out.2 (by have := (Array.getElem?_eq_some_iff.1 (HB4.out w4 (Kept.refl _ _)).2.2.2).1; have := HNJ.out.lt; omega)⟩
      refine hK.out _ _ (HSy.out) ?_
      clear hK K
      try simp only [Act.put, List.getElem_toArray, List.getElem_cons_succ, List.getElem_cons_zero]
      refine AnyBut.takeS (i := 4) (v := ?v3) rfl (by kernel_rfl) (Nat.le_of_eq (by kernel_rfl)) (by kernel_rfl) (by kernel_rfl) (fun _ _ _ h => h) (HSy.out) (Or.inl ⟨by kernel_rfl, ?hy3⟩) ?r3
      case hy3 =>
        intro w hSw
        try dsimp only at hSw
        go_simp
        try with_reducible rfl
      try simp only [Act.put, List.getElem_toArray, List.getElem_cons_succ, List.getElem_cons_zero, List.setIfInBounds_toArray, List.set_cons_zero, List.set_cons_succ]
      refine AnyBut.done (by kernel_rfl) ?_
      go_wp2
      refine bodyPost_ret (results_cct Try.results33 _ _ (q + 1 + 1) (q + 1 + 1 + 1) 32 37 _ _ (0, 0) (0, 0) _ _ rfl HBy.out.1 Try.underlying32 rfl state_info rfl HBy.out.2 Try.underlying37 rfl HIN.out) rfl ?_
      have n0 := HNJ.out.new.down HK04.out
      have n1 := n0.set (HB4.out (w15.drew) HNJ.out.k).2.2.1 (by decide) (by decide) (by have := HGE.out; omega) HKx.out
      have hlast := n1.set HBx.out.2 (by decide) (by decide) (by have := HGE.out; omega) HKy.out
      refine ⟨_, _, _, rfl, ⟨rfl, rfl⟩, ?_⟩
      rw [HOW.out]
      have hgp := GotP.parts (y := lessW s { x with temp := 2, flags := 0, start := s.time }) hlast (lessW_parts _ _)
      rw [← HNX.out] at hgp
      exact hgp
    · have HOW : Hid (outW s x = { x with temp := 2, flags := movedI s x }) := Lib.hid (by unfold outW; rw [if_neg hm])
      have qm : (movedI s x == 0) = false := by rw [beq_eq_false_iff_ne]; exact hm
      obtain ⟨NX, hNX⟩ : ∃ a, a = pntC { x with temp := 2, flags := movedI s x } (.slice d1 x.L.length e1) (.slice d2 x.h.pl.length e2) (.slice d3 x.h.nl.length e3) := ⟨_, rfl⟩
      have HIN : Hid ((Try.prog.info? 37).map (·.size) = some NX.size) := Lib.hid (point_info.trans (by rw [hNX]; rfl))
      have HSN : Hid (NX.size = 17 ∧ NX.all (·.oneCell') = true) := Lib.hid (by rw [hNX]; exact ⟨rfl, pntC_one' (ones_slices _ _ _ _ _ _ _ _ _)⟩)
      rw [← hNX] at HNE
      have HNX := Lib.hid hNX
      clear hNX hm
      have HKD := Lib.hid ((Kept.refl (fun _ => False) w11).drew)
      have HNI := Lib.hid (HNE.out.on HKD.out)
      have HNZ : Hid (NX.size = 17) := Lib.hid (by rw [HNX.out]; rfl)
      have HS0 : Hid ((fun w' => w'.heap[g10]? = some (.cells (stC (stOf x) (.slice a2 x.h.pl.length c2) (.slice a3 x.h.nl.length c3)) 32 (0, 0)) ∧ w'.heap[g11]? = some (.cells NX 37 (0, 0))) (w11.drew)) := Lib.hid ⟨HNI.out.bn, HNI.out.bo⟩
      go_upto_region 13 with fail
      refine AnyBut.start (S := fun w' => w'.heap[g10]? = some (.cells (stC (stOf x) (.slice a2 x.h.pl.length c2) (.slice a3 x.h.nl.length c3)) 32 (0, 0)) ∧ w'.heap[g11]? = some (.cells NX 37 (0, 0))) (k := 5) (by kernel_rfl) ?_
      refine AnyBut.takeS (i := 0) (v := ?v4) rfl (by kernel_rfl) (Nat.le_of_eq (by kernel_rfl)) (by kernel_rfl) (by kernel_rfl) (fun _ _ _ h => h) (HS0.out) (Or.inl ⟨by kernel_rfl, ?hy4⟩) ?r4
      case hy4 =>
        intro w hSw
        try dsimp only at hSw
        refine exec_load_row 32 (.tmp 10) ?_ g10 ?_ 32 _ (0, 0) _ hSw.1 Try.underlying32 rfl state_info
        · rfl
        · rfl
      try simp only [Act.put, List.getElem_toArray, List.getElem_cons_zero, List.setIfInBounds_toArray, List.set_cons_zero, List.set_cons_succ]
      refine AnyBut.takeS (i := 1) (v := ?v5) rfl (by kernel_rfl) (Nat.le_of_eq (by kernel_rfl)) (by kernel_rfl) (by kernel_rfl) (fun _ _ _ h => h) (HS0.out) (Or.inl ⟨by kernel_rfl, ?hy5⟩) ?r5
      case hy5 =>
        intro w hSw
        try dsimp only at hSw
        refine exec_load_row 37 (.tmp 11) ?_ g11 ?_ 37 _ (0, 0) _ hSw.2 Try.underlying37 rfl HIN.out
        · rfl
        · rfl
      try simp only [Act.put, List.getElem_toArray, List.getElem_cons_succ, List.getElem_cons_zero, List.setIfInBounds_toArray, List.set_cons_zero, List.set_cons_succ]
      refine AnyBut.one (i := 2) (by kernel_rfl) rfl (fun K hK => ?_)
      refine step_store_row (by rfl) 32 (.tmp 6) (.tmp 65) (by rfl) (q + 1 + 1) (stC (stOf x) (.slice a2 x.h.pl.length c2) (.slice a3 x.h.nl.length c3)) (by rfl) (by rfl) 32 #[.bool false, .int .i64 0, .int .i64 0, .int .i64 0, .int .u64 0, .int .u64 0, .int .i64 0, .int .u64 0, .int .i64 0, .slice none 0 0, .int .i64 0, .slice none 0 0] (HB4.out (w11.drew) HNI.out.k).2.2.1 state_info rfl (stC_one ⟨rfl, rfl⟩) ?_
      have HKx : Hid (Kept (fun i => i = q + 1 + 1) (w11.drew) ((w11.drew).setRow (q + 1 + 1) (stC (stOf x) (.slice a2 x.h.pl.length c2) (.slice a3 x.h.nl.length c3)))) := Lib.hid (setRow_keptW _ _ _)
      have HBx : Hid (((w11.drew).setRow (q + 1 + 1) (stC (stOf x) (.slice a2 x.h.pl.length c2) (.slice a3 x.h.nl.length c3))).heap[q + 1 + 1]? = some (.cells (stC (stOf x) (.slice a2 x.h.pl.length c2) (.slice a3 x.h.nl.length c3)) 32 (0, 0)) ∧ ((w11.drew).setRow (q + 1 + 1) (stC (stOf x) (.slice a2 x.h.pl.length c2) (.slice a3 x.h.nl.length c3))).heap[q + 1 + 1 + 1]? = some (.cells #[.string { data := #[] }, .slice none 0 0, .int .i64 0, .int .i64 0, .bool false, .int .i64 0, .int .i64 0, .int .i64 0, .int .u64 0, .int .u64 0, .int .i64 0, .int .u64 0, .int .i64 0, .slice none 0 0, .int .i64 0, .slice none 0 0, .int .i64 0] 37 (0, 0))) := Lib.hid ⟨setRow_heap _ _ _ _ _ _ (HB4.out (w11.drew) HNI.out.k).2.2.1, HKx.out.same (HB4.out (w11.drew) HNI.out.k).2.2.2 (by omega)⟩
      have HSx : Hid ((fun w' => w'.heap[g10]? = some (.cells (stC (stOf x) (.slice a2 x.h.pl.length c2) (.slice a3 x.h.nl.length c3)) 32 (0, 0)) ∧ w'.heap[g11]? = some (.cells NX 37 (0, 0))) ((w11.drew).setRow (q + 1 + 1) (stC (stOf x) (.slice a2 x.h.pl.length c2) (.slice a3 x.h.nl.length c3)))) := Lib.hid ⟨HKx.out.same HS0.out.1 (by have := (Array.getElem?_eq_some_iff.1 (HB4.out w4 (Kept.refl _ _)).2.2.2).1; have := HNI.out.lt; omega), HKx.out.same HS0.out.2 (by have := (Array.getElem?_eq_some_iff.1 (HB4.out w4 (Kept.refl _ _)).2.2.2).1; have := HNI.out.lt; omega)⟩
      refine hK.out _ _ (HSx.out) ?_
      clear hK K
      try simp only [Act.put, List.getElem_toArray, List.getElem_cons_succ, List.getElem_cons_zero]
      refine AnyBut.one (i := 3) (by kernel_rfl) rfl (fun K hK => ?_)
      refine step_store_row (by rfl) 37 (.tmp 7) (.tmp 66) (by rfl) (q + 1 + 1 + 1) NX (by rfl) (by rfl) 37 #[.string { data := #[] }, .slice none 0 0, .int .i64 0, .int .i64 0, .bool false, .int .i64 0, .int .i64 0, .int .i64 0, .int .u64 0, .int .u64 0, .int .i64 0, .int .u64 0, .int .i64 0, .slice none 0 0, .int .i64 0, .slice none 0 0, .int .i64 0] HBx.out.2 HIN.out (by rw [HNZ.out]; rfl) HSN.out.2 ?_
      have HKy : Hid (Kept (fun i => i = q + 1 + 1 + 1) ((w11.drew).setRow (q + 1 + 1) (stC (stOf x) (.slice a2 x.h.pl.length c2) (.slice a3 x.h.nl.length c3))) (((w11.drew).setRow (q + 1 + 1) (stC (stOf x) (.slice a2 x.h.pl.length c2) (.slice a3 x.h.nl.length c3))).setRow (q + 1 + 1 + 1) NX)) := Lib.hid (setRow_keptW _ _ _)
      have HBy : Hid ((((w11.drew).setRow (q + 1 + 1) (stC (stOf x) (.slice a2 x.h.pl.length c2) (.slice a3 x.h.nl.length c3))).setRow (q + 1 + 1 + 1) NX).heap[q + 1 + 1]? = some (.cells (stC (stOf x) (.slice a2 x.h.pl.length c2) (.slice a3 x.h.nl.length c3)) 32 (0, 0)) ∧ (((w11.drew).setRow (q + 1 + 1) (stC (stOf x) (.slice a2 x.h.pl.length c2) (.slice a3 x.h.nl.length c3))).setRow (q + 1 + 1 + 1) NX).heap[q + 1 + 1 + 1]? = some (.cells NX 37 (0, 0))) := Lib.hid ⟨HKy.out.same HBx.out.1 (by omega), setRow_heap _ _ _ _ _ _ HBx.out.2⟩
      have HSy : Hid ((fun w' => w'.heap[g10]? = some (.cells (stC (stOf x) (.slice a2 x.h.pl.length c2) (.slice a3 x.h.nl.length c3)) 32 (0, 0)) ∧ w'.heap[g11]? = some (.cells NX 37 (0, 0))) (((w11.drew).setRow (q + 1 + 1) (stC (stOf x) (.slice a2 x.h.pl.length c2) (.slice a3 x.h.nl.length c3))).setRow (q + 1 + 1 + 1) NX)) := Lib.hid ⟨HKy.out.same HSx.out.1 (by have := (Array.getElem?_eq_some_iff.1 (HB4.out w4 (Kept.refl _ _)).2.2.2).1; have := HNI.out.lt; omega), HKy.out.same HSx.out.2 (by have := (Array.getElem?_eq_some_iff.1 (HB4.out w4 (Kept.refl _ _)).2.2.2).1; have := HNI.out.lt; omega)⟩
      refine hK.out _ _ (HSy.out) ?_
      clear hK K
      try simp only [Act.put, List.getElem_toArray, List.getElem_cons_succ, List.getElem_cons_zero]
      refine AnyBut.takeS (i := 4) (v := ?v6) rfl (by kernel_rfl) (Nat.le_of_eq (by kernel_rfl)) (by kernel_rfl) (by kernel_rfl) (fun _ _ _ h => h) (HSy.out) (Or.inl ⟨by kernel_rfl, ?hy6⟩) ?r6
      case hy6 =>
        intro w hSw
        try dsimp only at hSw
        go_simp
        try with_reducible rfl
      try simp only [Act.put, List.getElem_toArray, List.getElem_cons_succ, List.getElem_cons_zero, List.setIfInBounds_toArray, List.set_cons_zero, List.set_cons_succ]
      refine AnyBut.done (by kernel_rfl) ?_
      go_wp2
      refine bodyPost_ret (results_cct Try.results33 _ _ (q + 1 + 1) (q + 1 + 1 + 1) 32 37 _ _ (0, 0) (0, 0) _ _ rfl HBy.out.1 Try.underlying32 rfl state_info rfl HBy.out.2 Try.underlying37 rfl HIN.out) rfl ?_
      have n0 := HNI.out.new.down HK04.out
      have n1 := n0.set (HB4.out (w11.drew) HNI.out.k).2.2.1 (by decide) (by decide) (by have := HGE.out; omega) HKx.out
      have hlast := n1.set HBx.out.2 (by decide) (by decide) (by have := HGE.out; omega) HKy.out
      refine ⟨_, _, _, rfl, ⟨rfl, rfl⟩, ?_⟩
      rw [HOW.out]
      have hgp := GotP.parts (y := { x with temp := 2, flags := movedI s x }) hlast ⟨rfl, rfl⟩
      rw [← HNX.out] at hgp
      exact hgp
  | true =>
    rw [show stepE s x = lateI s x by rw [hse, hsm]; rfl]
    clear hse
    by_cases hl : lateI s x = 0
    case neg =>
      rw [if_neg hl, if_neg hl]
      have q2 : (lateI s x != 0) = true := by rw [bne_iff_ne]; exact hl
      go_enter Try.func33, Try.ntmps33
      go_upto_region 1 with fail
      rw [← HW2.out.1, ← HW2.out.2]
      go_wp2_with (first
        | (refine wpList_load_row rfl 37 (.tmp 4) rfl (q + 1) rfl 37 _ (0, 0) _ HB.out.2.1 Try.underlying37 rfl HIX.out ?_)
        | fail)
      refine (HTK.out w2 (Kept.refl _ _)).mono ?_
      rintro e w3 ⟨v, rfl, g3⟩
      have HG3 := Lib.hid g3
      obtain ⟨CY, rfl, hi, hs, h1⟩ := g3.cells
      have HIY := Lib.hid hi
      have HSY := Lib.hid (And.intro hs h1)
      have HK3 := Lib.hid g3.kept
      clear g3 hi hs h1
      go_upto_region 2 with (refine wpList_store_to rfl 37 (.tmp 4) _ rfl (q + 1) CY rfl rfl 37 CX (HBX.out w3 HK3.out).2.1 HIY.out (by rw [HSX.out, HSY.out.1]) HSY.out.2 ?_; intro w4 hb4 k4; have HB4 : Hid (∀ w', Kept (fun _ => False) w4 w' → w'.heap[q]? = some (.cells CS 32 (0, 0)) ∧ w'.heap[q + 1]? = some (.cells CY 37 (0, 0)) ∧ w'.heap[q + 1 + 1]? = some (.cells #[.bool false, .int .i64 0, .int .i64 0, .int .i64 0, .int .u64 0, .int .u64 0, .int .i64 0, .int .u64 0, .int .i64 0, .slice none 0 0, .int .i64 0, .slice none 0 0] 32 (0, 0)) ∧ w'.heap[q + 1 + 1 + 1]? = some (.cells #[.string { data := #[] }, .slice none 0 0, .int .i64 0, .int .i64 0, .bool false, .int .i64 0, .int .i64 0, .int .i64 0, .int .u64 0, .int .u64 0, .int .i64 0, .int .u64 0, .int .i64 0, .slice none 0 0, .int .i64 0, .slice none 0 0, .int .i64 0] 37 (0, 0))) := Lib.hid (fun w' k => ⟨k.same (k4.same (HBX.out w3 HK3.out).1 (by omega)) (fun x => x), k.same hb4 (fun x => x), k.same (k4.same (HBX.out w3 HK3.out).2.2.1 (by omega)) (fun x => x), k.same (k4.same (HBX.out w3 HK3.out).2.2.2 (by omega)) (fun x => x)⟩); have HK04 := Lib.hid ((HK02.out.trans HK3.out).newer k4 (fun i e => by have := HGE.out; omega)); have HN4 : Hid (GotP w w4 x (.agg CY)) := Lib.hid (by obtain ⟨a1, a2, a3, c1, c2, c3, e, n⟩ := HG3.out; exact ⟨a1, a2, a3, c1, c2, c3, e, (n.down HK02.out).set (HBX.out w3 HK3.out).2.1 (by decide) (by decide) (by have := HGE.out; omega) k4⟩); have s0 : w4.cell? ⟨q, 0, none⟩ = some (.bool true) := cell_rowZ 0 _ (HB4.out w4 (Kept.refl _ _)).1 (by rw [HCS.out, ← hsm]; rfl); clear hb4 k4)
      obtain ⟨a1, a2, a3, c1, c2, c3, hvy, n4⟩ := HN4.out
      have HCY : Hid (CY = pntC x (.slice a1 x.L.length c1) (.slice a2 x.h.pl.length c2) (.slice a3 x.h.nl.length c3)) := Lib.hid (by injection hvy)
      have HVY : Hid (pntV x (.slice a1 x.L.length c1) (.slice a2 x.h.pl.length c2) (.slice a3 x.h.nl.length c3) = .agg CY) := Lib.hid hvy.symm
      have HPN := Lib.hid (fun w' (k : Kept (fun _ => False) w4 w') => n4.pnt.on k)
      clear hvy n4
      clear hsm hl
      go_wp2_with (first
        | (refine wpList_load_row rfl 32 (.tmp 3) rfl q rfl 32 _ (0, 0) _ (HB4.out w4 (Kept.refl _ _)).1 Try.underlying32 rfl HIS.out ?_)
        | (refine wpList_load_row rfl 37 (.tmp 4) rfl (q + 1) rfl 37 _ (0, 0) _ (HB4.out w4 (Kept.refl _ _)).2.1 Try.underlying37 rfl HIY.out ?_)
        | fail)
      rw [HCY.out]
      refine (HLT.out _ _ _ w4).mono ?_
      rintro e w5 ⟨rfl, k5⟩
      have HK5 := Lib.hid k5
      clear k5
      rw [← HCY.out]
      go_wp2_with (first
        | (refine wpList_store_row rfl 32 (.tmp 6) _ rfl (q + 1 + 1) #[.bool false, .int .i64 0, .int .i64 0, .int .i64 0, .int .u64 0, .int .u64 0, .int .i64 0, .int .u64 0, .int .i64 0, .slice none 0 0, .int .i64 0, .slice none 0 0] rfl rfl 32 _ (HB4.out w5 HK5.out).2.2.1 state_info rfl (stC_one (s := zeroSt) ⟨rfl, rfl⟩) ?_)
        | (refine wpList_store_row rfl 37 (.tmp 7) _ rfl (q + 1 + 1 + 1) #[.string { data := #[] }, .slice none 0 0, .int .i64 0, .int .i64 0, .bool false, .int .i64 0, .int .i64 0, .int .i64 0, .int .u64 0, .int .u64 0, .int .i64 0, .int .u64 0, .int .i64 0, .slice none 0 0, .int .i64 0, .slice none 0 0, .int .i64 0] rfl rfl 37 _ ((setRow_keptW _ _ _).same (HB4.out w5 HK5.out).2.2.2 (by omega)) point_info rfl (pntC_one' (x := zeroPt) (ones_slices _ _ _ _ _ _ _ _ _)) ?_)
        | fail)
      have kz1 : Kept (fun i => i = q + 1 + 1) w5 (w5.setRow (q + 1 + 1) #[.bool false, .int .i64 0, .int .i64 0, .int .i64 0, .int .u64 0, .int .u64 0, .int .i64 0, .int .u64 0, .int .i64 0, .slice none 0 0, .int .i64 0, .slice none 0 0]) := setRow_keptW _ _ _
      have kz2 : Kept (fun i => i = q + 1 + 1 + 1) (w5.setRow (q + 1 + 1) #[.bool false, .int .i64 0, .int .i64 0, .int .i64 0, .int .u64 0, .int .u64 0, .int .i64 0, .int .u64 0, .int .i64 0, .slice none 0 0, .int .i64 0, .slice none 0 0]) ((w5.setRow (q + 1 + 1) #[.bool false, .int .i64 0, .int .i64 0, .int .i64 0, .int .u64 0, .int .u64 0, .int .i64 0, .int .u64 0, .int .i64 0, .slice none 0 0, .int .i64 0, .slice none 0 0]).setRow (q + 1 + 1 + 1) #[.string { data := #[] }, .slice none 0 0, .int .i64 0, .int .i64 0, .bool false, .int .i64 0, .int .i64 0, .int .i64 0, .int .u64 0, .int .u64 0, .int .i64 0, .int .u64 0, .int .i64 0, .slice none 0 0, .int .i64 0, .slice none 0 0, .int .i64 0]) := setRow_keptW _ _ _
      refine bodyPost_ret (results_cct Try.results33 _ _ (q + 1 + 1) (q + 1 + 1 + 1) 32 37 _ _ (0, 0) (0, 0) _ _ rfl (kz2.same (setRow_heap _ _ _ _ _ _ (HB4.out w5 HK5.out).2.2.1) (by omega)) Try.underlying32 rfl state_info rfl (setRow_heap _ _ _ _ _ _ (kz1.same (HB4.out w5 HK5.out).2.2.2 (by omega))) Try.underlying37 rfl point_info) rfl ?_
      exact ⟨.slice none 0 0, .slice none 0 0, _, rfl, ⟨rfl, rfl⟩, GotP.zero (((HK04.out.trans HK5.out).newer kz1 (fun i e => by have := HGE.out; omega)).newer kz2 (fun i e => by have := HGE.out; omega))⟩
    rw [hl, if_pos rfl, if_pos rfl]
    go_enter Try.func33, Try.ntmps33
    go_upto_region 1 with fail
    rw [← HW2.out.1, ← HW2.out.2]
    go_wp2_with (first
      | (refine wpList_load_row rfl 37 (.tmp 4) rfl (q + 1) rfl 37 _ (0, 0) _ HB.out.2.1 Try.underlying37 rfl HIX.out ?_)
      | fail)
    refine (HTK.out w2 (Kept.refl _ _)).mono ?_
    rintro e w3 ⟨v, rfl, g3⟩
    have HG3 := Lib.hid g3
    obtain ⟨CY, rfl, hi, hs, h1⟩ := g3.cells
    have HIY := Lib.hid hi
    have HSY := Lib.hid (And.intro hs h1)
    have HK3 := Lib.hid g3.kept
    clear g3 hi hs h1
    go_upto_region 2 with (refine wpList_store_to rfl 37 (.tmp 4) _ rfl (q + 1) CY rfl rfl 37 CX (HBX.out w3 HK3.out).2.1 HIY.out (by rw [HSX.out, HSY.out.1]) HSY.out.2 ?_; intro w4 hb4 k4; have HB4 : Hid (∀ w', Kept (fun _ => False) w4 w' → w'.heap[q]? = some (.cells CS 32 (0, 0)) ∧ w'.heap[q + 1]? = some (.cells CY 37 (0, 0)) ∧ w'.heap[q + 1 + 1]? = some (.cells #[.bool false, .int .i64 0, .int .i64 0, .int .i64 0, .int .u64 0, .int .u64 0, .int .i64 0, .int .u64 0, .int .i64 0, .slice none 0 0, .int .i64 0, .slice none 0 0] 32 (0, 0)) ∧ w'.heap[q + 1 + 1 + 1]? = some (.cells #[.string { data := #[] }, .slice none 0 0, .int .i64 0, .int .i64 0, .bool false, .int .i64 0, .int .i64 0, .int .i64 0, .int .u64 0, .int .u64 0, .int .i64 0, .int .u64 0, .int .i64 0, .slice none 0 0, .int .i64 0, .slice none 0 0, .int .i64 0] 37 (0, 0))) := Lib.hid (fun w' k => ⟨k.same (k4.same (HBX.out w3 HK3.out).1 (by omega)) (fun x => x), k.same hb4 (fun x => x), k.same (k4.same (HBX.out w3 HK3.out).2.2.1 (by omega)) (fun x => x), k.same (k4.same (HBX.out w3 HK3.out).2.2.2 (by omega)) (fun x => x)⟩); have HK04 := Lib.hid ((HK02.out.trans HK3.out).newer k4 (fun i e => by have := HGE.out; omega)); have HN4 : Hid (GotP w w4 x (.agg CY)) := Lib.hid (by obtain ⟨a1, a2, a3, c1, c2, c3, e, n⟩ := HG3.out; exact ⟨a1, a2, a3, c1, c2, c3, e, (n.down HK02.out).set (HBX.out w3 HK3.out).2.1 (by decide) (by decide) (by have := HGE.out; omega) k4⟩); have s0 : w4.cell? ⟨q, 0, none⟩ = some (.bool true) := cell_rowZ 0 _ (HB4.out w4 (Kept.refl _ _)).1 (by rw [HCS.out, ← hsm]; rfl); clear hb4 k4)
    obtain ⟨a1, a2, a3, c1, c2, c3, hvy, n4⟩ := HN4.out
    have HCY : Hid (CY = pntC x (.slice a1 x.L.length c1) (.slice a2 x.h.pl.length c2) (.slice a3 x.h.nl.length c3)) := Lib.hid (by injection hvy)
    have HVY : Hid (pntV x (.slice a1 x.L.length c1) (.slice a2 x.h.pl.length c2) (.slice a3 x.h.nl.length c3) = .agg CY) := Lib.hid hvy.symm
    have HPN := Lib.hid (fun w' (k : Kept (fun _ => False) w4 w') => n4.pnt.on k)
    clear hvy n4
    clear hsm
    go_wp2_with (first
      | (refine wpList_load_row rfl 32 (.tmp 3) rfl q rfl 32 _ (0, 0) _ (HB4.out w4 (Kept.refl _ _)).1 Try.underlying32 rfl HIS.out ?_)
      | (refine wpList_load_row rfl 37 (.tmp 4) rfl (q + 1) rfl 37 _ (0, 0) _ (HB4.out w4 (Kept.refl _ _)).2.1 Try.underlying37 rfl HIY.out ?_)
      | fail)
    rw [HCY.out]
    refine (HLT.out _ _ _ w4).mono ?_
    rintro e w5 ⟨rfl, k5⟩
    have HK5 := Lib.hid k5
    clear k5
    rw [← HCY.out]
    rw [hl]
    clear hl
    go_upto_region 6 with fail
    clear s0
    have p5 : w5.cell? ⟨q + 1, 5, none⟩ = some (.int .i64 x.start) := cell_rowZ 5 _ (HB4.out w5 HK5.out).2.1 (by rw [HCY.out]; rfl)
    have p6 : w5.cell? ⟨q + 1, 6, none⟩ = some (.int .i64 x.time) := cell_rowZ 6 _ (HB4.out w5 HK5.out).2.1 (by rw [HCY.out]; rfl)
    have p7 : w5.cell? ⟨q + 1, 7, none⟩ = some (.int .i64 x.whole) := cell_rowZ 7 _ (HB4.out w5 HK5.out).2.1 (by rw [HCY.out]; rfl)
    have p8 : w5.cell? ⟨q + 1, 8, none⟩ = some (.int .u64 x.re) := cell_rowZ 8 _ (HB4.out w5 HK5.out).2.1 (by rw [HCY.out]; rfl)
    have p9 : w5.cell? ⟨q + 1, 9, none⟩ = some (.int .u64 x.im) := cell_rowZ 9 _ (HB4.out w5 HK5.out).2.1 (by rw [HCY.out]; rfl)
    have p10 : w5.cell? ⟨q + 1, 10, none⟩ = some (.int .i64 x.h.sc) := cell_rowZ 10 _ (HB4.out w5 HK5.out).2.1 (by rw [HCY.out]; rfl)
    have p11 : w5.cell? ⟨q + 1, 11, none⟩ = some (.int .u64 (x.h.ze : Int)) := cell_rowZ 11 _ (HB4.out w5 HK5.out).2.1 (by rw [HCY.out]; rfl)
    have p12 : w5.cell? ⟨q + 1, 12, none⟩ = some (.int .i64 x.h.po) := cell_rowZ 12 _ (HB4.out w5 HK5.out).2.1 (by rw [HCY.out]; rfl)
    have p13 : w5.cell? ⟨q + 1, 13, none⟩ = some (.slice a2 x.h.pl.length c2) := cell_rowZ 13 _ (HB4.out w5 HK5.out).2.1 (by rw [HCY.out]; rfl)
    have p14 : w5.cell? ⟨q + 1, 14, none⟩ = some (.int .i64 x.h.no) := cell_rowZ 14 _ (HB4.out w5 HK5.out).2.1 (by rw [HCY.out]; rfl)
    have p15 : w5.cell? ⟨q + 1, 15, none⟩ = some (.slice a3 x.h.nl.length c3) := cell_rowZ 15 _ (HB4.out w5 HK5.out).2.1 (by rw [HCY.out]; rfl)
    obtain ⟨g10, hg10⟩ : ∃ g, g = w5.heap.size := ⟨_, rfl⟩
    have HG10 := Lib.hid hg10
    clear hg10
    go_upto_region 7 with (refine wpList_store_box rfl 32 (.tmp 10) _ rfl w5 _ (stC (stOf x) (.slice a2 x.h.pl.length c2) (.slice a3 x.h.nl.length c3)) 32 rfl rfl rfl state_info rfl (stC_one ⟨rfl, rfl⟩) ?_; intro w6 hb6 k6; have HB6 : Hid (w6.heap[g10]? = some (.cells (stC (stOf x) (.slice a2 x.h.pl.length c2) (.slice a3 x.h.nl.length c3)) 32 (0, 0))) := Lib.hid (by rw [HG10.out]; exact hb6); have HK6 := Lib.hid (HK5.out.trans k6); clear hb6 k6)
    clear p5 p6 p7 p8 p9 p10 p11 p12 p13 p14 p15
    rw [← HG10.out]
    go_wp2_with (first
      | (refine wpList_load_row rfl 37 (.tmp 4) rfl (q + 1) rfl 37 _ (0, 0) _ (HB4.out w6 HK6.out).2.1 Try.underlying37 rfl HIY.out ?_)
      | fail)
    rw [← HVY.out]
    refine (HCL.out a1 a2 a3 c1 c2 c3 w6 (HPN.out w6 HK6.out)).mono ?_
    rintro e w7 ⟨v, rfl, g7⟩
    obtain ⟨d1, d2, d3, e1, e2, e3, rfl, n7⟩ := g7
    obtain ⟨OX, hOX⟩ : ∃ a, a = pntC x (.slice d1 x.L.length e1) (.slice d2 x.h.pl.length e2) (.slice d3 x.h.nl.length e3) := ⟨_, rfl⟩
    have hvo : pntV x (.slice d1 x.L.length e1) (.slice d2 x.h.pl.length e2) (.slice d3 x.h.nl.length e3) = .agg OX := by rw [hOX]; rfl
    rw [hvo]
    have HIO : Hid ((Try.prog.info? 37).map (·.size) = some OX.size) := Lib.hid (point_info.trans (by rw [hOX]; rfl))
    have HSO : Hid (OX.size = 17 ∧ OX.all (·.oneCell') = true) := Lib.hid (by rw [hOX]; exact ⟨rfl, pntC_one' (ones_slices _ _ _ _ _ _ _ _ _)⟩)
    have HN7 := Lib.hid n7
    have HOX := Lib.hid hOX
    obtain ⟨g11, hg11⟩ : ∃ g, g = w7.heap.size := ⟨_, rfl⟩
    have HG11 := Lib.hid hg11
    clear n7 hOX hg11 hvo
    go_upto_region 8 with (refine wpList_store_box rfl 37 (.tmp 11) _ rfl w7 _ OX 37 rfl rfl rfl HIO.out (by rw [HSO.out.1]; rfl) HSO.out.2 ?_; intro w8 hb8 k8; have HNB : Hid (NB w4 w8 g10 g11 (stC (stOf x) (.slice a2 x.h.pl.length c2) (.slice a3 x.h.nl.length c3)) (pntC x (.slice d1 x.L.length e1) (.slice d2 x.h.pl.length e2) (.slice d3 x.h.nl.length e3)) x d1 d2 d3 e1 e2 e3) := Lib.hid ⟨(HK6.out.trans HN7.out.at_.kept).trans k8, k8.same (HN7.out.at_.kept.same HB6.out (fun x => x)) (fun x => x), by rw [← HOX.out, HG11.out]; exact hb8, ⟨by have := HG10.out; have := HK5.out.size; omega, by have := HG11.out; have := HK6.out.size; have := HN7.out.at_.kept.size; omega, by have := HG10.out; have := HG11.out; have := (Array.getElem?_eq_some_iff.1 HB6.out).1; have := HN7.out.at_.kept.size; omega⟩, (HN7.out.on k8).down HK6.out⟩; clear hb8 k8)
    rw [← HG11.out]
    clear HN7 HOX HSO HIO HB6
    have c3 : w8.cell? ⟨g11, 3, none⟩ = some (.int .i64 x.temp) := cell_rowZ 3 _ HNB.out.bo rfl
    have f3 := free_of_rowZ 3 HNB.out.bo
    go_upto_region 9 with fail
    clear c3 f3
    have HNC := Lib.hid (HNB.out.put 3 (.int .i64 2) (OX' := pntC { x with temp := 2 } (.slice d1 x.L.length e1) (.slice d2 x.h.pl.length e2) (.slice d3 x.h.nl.length e3)) rfl)
    clear HNB
    obtain ⟨w9, hw9⟩ : ∃ w', w' = w8.setCell ⟨g11, 3, none⟩ (.int .i64 2) := ⟨_, rfl⟩
    rw [← hw9] at HNC
    rw [← hw9]
    clear hw9
    go_wp2_with (first
      | (refine wpList_load_row rfl 32 (.tmp 3) rfl q rfl 32 _ (0, 0) _ (HB4.out w9 HNC.out.k).1 Try.underlying32 rfl HIS.out ?_)
      | (refine wpList_load_row rfl 37 (.tmp 4) rfl (q + 1) rfl 37 _ (0, 0) _ (HB4.out w9 HNC.out.k).2.1 Try.underlying37 rfl HIY.out ?_)
      | fail)
    rw [HCY.out]
    refine (HMV.out _ _ _ w9).mono ?_
    rintro e w10 ⟨rfl, k10⟩
    have HND := Lib.hid (HNC.out.on k10)
    clear k10 HNC
    rw [← HCY.out]
    have c16 : w10.cell? ⟨g11, 16, none⟩ = some (.int .i64 x.flags) := cell_rowZ 16 _ HND.out.bo rfl
    have f16 := free_of_rowZ 16 HND.out.bo
    go_upto_region 10 with fail
    clear c16 f16
    have HNE := Lib.hid (HND.out.put 16 (.int .i64 (movedI s x)) (OX' := pntC { x with temp := 2, flags := movedI s x } (.slice d1 x.L.length e1) (.slice d2 x.h.pl.length e2) (.slice d3 x.h.nl.length e3)) rfl)
    clear HND
    obtain ⟨w11, hw11⟩ : ∃ w', w' = w10.setCell ⟨g11, 16, none⟩ (.int .i64 (movedI s x)) := ⟨_, rfl⟩
    rw [← hw11] at HNE
    rw [← hw11]
    clear hw11
    have c16 : w11.cell? ⟨g11, 16, none⟩ = some (.int .i64 (movedI s x)) := cell_rowZ 16 _ HNE.out.bo rfl
    by_cases hm : movedI s x = 0
    · have HOW : Hid (outW s x = lessW s { x with temp := 2, flags := 0, start := s.time }) := Lib.hid (by unfold outW; rw [if_pos hm])
      rw [hm] at c16 HNE
      rw [hm]
      have c2 : w11.cell? ⟨q, 2, none⟩ = some (.int .i64 s.time) := cell_rowZ 2 _ (HB4.out w11 HNE.out.k).1 (by rw [HCS.out]; rfl)
      have c5 : w11.cell? ⟨g11, 5, none⟩ = some (.int .i64 x.start) := cell_rowZ 5 _ HNE.out.bo rfl
      have f5 := free_of_rowZ 5 HNE.out.bo
      clear hm
      go_upto_region 12 with fail
      clear c2 c5 f5 c16
      have HNF := Lib.hid (HNE.out.put 5 (.int .i64 s.time) (OX' := pntC { x with temp := 2, flags := 0, start := s.time } (.slice d1 x.L.length e1) (.slice d2 x.h.pl.length e2) (.slice d3 x.h.nl.length e3)) rfl)
      clear HNE
      obtain ⟨w12, hw12⟩ : ∃ w', w' = w11.setCell ⟨g11, 5, none⟩ (.int .i64 s.time) := ⟨_, rfl⟩
      rw [← hw12] at HNF
      rw [← hw12]
      clear hw12
      obtain ⟨OY, hOY⟩ : ∃ a, a = pntC { x with temp := 2, flags := 0, start := s.time } (.slice d1 x.L.length e1) (.slice d2 x.h.pl.length e2) (.slice d3 x.h.nl.length e3) := ⟨_, rfl⟩
      have HIO : Hid ((Try.prog.info? 37).map (·.size) = some OY.size) := Lib.hid (point_info.trans (by rw [hOY]; rfl))
      rw [← hOY] at HNF
      have HL1 := Lib.hid (fun w => HLS.out { x with temp := 2, flags := 0, start := s.time } d1 d2 d3 x.L.length e1 x.h.pl.length e2 x.h.nl.length e3 w HKI.out)
      rw [← hOY] at HL1
      obtain ⟨NX, hNX⟩ : ∃ a, a = pntC (lessW s { x with temp := 2, flags := 0, start := s.time }) (.slice d1 x.L.length e1) (.slice d2 x.h.pl.length e2) (.slice d3 x.h.nl.length e3) := ⟨_, rfl⟩
      rw [← hNX] at HL1
      have HIN : Hid ((Try.prog.info? 37).map (·.size) = some NX.size) := Lib.hid (point_info.trans (by rw [hNX]; rfl))
      have HSN : Hid (OY.size = NX.size ∧ NX.all (·.oneCell') = true) := Lib.hid (by rw [hNX, hOY]; exact ⟨rfl, pntC_one' (ones_slices _ _ _ _ _ _ _ _ _)⟩)
      have HNX := Lib.hid hNX
      clear hNX hOY
      go_wp2_with (first
        | (refine wpList_load_row rfl 32 (.tmp 3) rfl q rfl 32 _ (0, 0) _ (HB4.out w12 HNF.out.k).1 Try.underlying32 rfl HIS.out ?_)
        | (refine wpList_load_row rfl 37 (.tmp 11) rfl g11 rfl 37 _ (0, 0) _ HNF.out.bo Try.underlying37 rfl HIO.out ?_)
        | fail)
      refine (HL1.out w12).mono ?_
      rintro e w13 ⟨rfl, k13⟩
      have HNG := Lib.hid (HNF.out.on k13)
      clear k13 HNF
      go_upto_region 13 with (first | (refine wpList_store_to rfl 37 (.tmp 11) _ rfl g11 NX rfl rfl 37 OY HNG.out.bo HIN.out HSN.out.1 HSN.out.2 ?_; intro w14 hb14 k14; have HNH := Lib.hid (HNG.out.out k14 hb14); clear hb14 k14) | (refine wpList_store_mid rfl 30 (.tmp 64) _ rfl g10 6 #[.int .i64 x.h.sc, .int .u64 (x.h.ze : Int), .int .i64 x.h.po, .slice d2 x.h.pl.length e2, .int .i64 x.h.no, .slice d3 x.h.nl.length e3] rfl rfl (box_there HNH.out.bn 6 6 (Nat.le_refl 12)) hist_info (histC_one ⟨rfl, rfl⟩) ?_))
      have HNI := Lib.hid (HNH.out.next (setCells6 HNH.out.bn 6 (.int .i64 x.h.sc) (.int .u64 (x.h.ze : Int)) (.int .i64 x.h.po) (.slice d2 x.h.pl.length e2) (.int .i64 x.h.no) (.slice d3 x.h.nl.length e3)).2 (NS' := stC (stOf x) (.slice d2 x.h.pl.length e2) (.slice d3 x.h.nl.length e3)) (setCells6 HNH.out.bn 6 (.int .i64 x.h.sc) (.int .u64 (x.h.ze : Int)) (.int .i64 x.h.po) (.slice d2 x.h.pl.length e2) (.int .i64 x.h.no) (.slice d3 x.h.nl.length e3)).1)
      clear HNG HNH
      obtain ⟨w15, hw15⟩ : ∃ w', w' = World.setCells w14 g10 6 [.int .i64 x.h.sc, .int .u64 (x.h.ze : Int), .int .i64 x.h.po, .slice d2 x.h.pl.length e2, .int .i64 x.h.no, .slice d3 x.h.nl.length e3] := ⟨_, rfl⟩
      rw [← hw15] at HNI
      have hw15' := hw15.symm
      first | rw [← hw15] | (show Code.wp _ _ _ w15 _) | skip
      clear hw15 hw15'
      have HNZ : Hid (NX.size = 17) := Lib.hid (by rw [HNX.out]; rfl)
      have HKD := Lib.hid ((Kept.refl (fun _ => False) w15).drew)
      have HNJ := Lib.hid (HNI.out.on HKD.out)
      have HS0 : Hid ((fun w' => w'.heap[g10]? = some (.cells (stC (stOf x) (.slice d2 x.h.pl.length e2) (.slice d3 x.h.nl.length e3)) 32 (0, 0)) ∧ w'.heap[g11]? = some (.cells NX 37 (0, 0))) (w15.drew)) := Lib.hid ⟨HNJ.out.bn, HNJ.out.bo⟩
      go_upto_region 13 with fail
      refine AnyBut.start (S := fun w' => w'.heap[g10]? = some (.cells (stC (stOf x) (.slice d2 x.h.pl.length e2) (.slice d3 x.h.nl.length e3)) 32 (0, 0)) ∧ w'.heap[g11]? = some (.cells NX 37 (0, 0))) (k := 5) (by kernel_rfl) ?_
      refine AnyBut.takeS (i := 0) (v := ?v7) rfl (by kernel_rfl) (Nat.le_of_eq (by kernel_rfl)) (by kernel_rfl) (by kernel_rfl) (fun _ _ _ h => h) (HS0.out) (Or.inl ⟨by kernel_rfl, ?hy7⟩) ?r7
      case hy7 =>
        intro w hSw
        try dsimp only at hSw
        refine exec_load_row 32 (.tmp 10) ?_ g10 ?_ 32 _ (0, 0) _ hSw.1 Try.underlying32 rfl state_info
        · rfl
        · rfl
      try simp only [Act.put, List.getElem_toArray, List.getElem_cons_zero, List.setIfInBounds_toArray, List.set_cons_zero, List.set_cons_succ]
      refine AnyBut.takeS (i := 1) (v := ?v8) rfl (by kernel_rfl) (Nat.le_of_eq (by kernel_rfl)) (by kernel_rfl) (by kernel_rfl) (fun _ _ _ h => h) (HS0.out) (Or.inl ⟨by kernel_rfl, ?hy8⟩) ?r8
      case hy8 =>
        intro w hSw
        try dsimp only at hSw
        refine exec_load_row 37 (.tmp 11) ?_ g11 ?_ 37 _ (0, 0) _ hSw.2 Try.underlying37 rfl HIN.out
        · rfl
        · rfl
      try simp only [Act.put, List.getElem_toArray, List.getElem_cons_succ, List.getElem_cons_zero, List.setIfInBounds_toArray, List.set_cons_zero, List.set_cons_succ]
      refine AnyBut.one (i := 2) (by kernel_rfl) rfl (fun K hK => ?_)
      refine step_store_row (by rfl) 32 (.tmp 6) (.tmp 65) (by rfl) (q + 1 + 1) (stC (stOf x) (.slice d2 x.h.pl.length e2) (.slice d3 x.h.nl.length e3)) (by rfl) (by rfl) 32 #[.bool false, .int .i64 0, .int .i64 0, .int .i64 0, .int .u64 0, .int .u64 0, .int .i64 0, .int .u64 0, .int .i64 0, .slice none 0 0, .int .i64 0, .slice none 0 0] (HB4.out (w15.drew) HNJ.out.k).2.2.1 state_info rfl (stC_one ⟨rfl, rfl⟩) ?_
      have HKx : Hid (Kept (fun i => i = q + 1 + 1) (w15.drew) ((w15.drew).setRow (q + 1 + 1) (stC (stOf x) (.slice d2 x.h.pl.length e2) (.slice d3 x.h.nl.length e3)))) := Lib.hid (setRow_keptW _ _ _)
      have HBx : Hid (((w15.drew).setRow (q + 1 + 1) (stC (stOf x) (.slice d2 x.h.pl.length e2) (.slice d3 x.h.nl.length e3))).heap[q + 1 + 1]? = some (.cells (stC (stOf x) (.slice d2 x.h.pl.length e2) (.slice d3 x.h.nl.length e3)) 32 (0, 0)) ∧ ((w15.drew).setRow (q + 1 + 1) (stC (stOf x) (.slice d2 x.h.pl.length e2) (.slice d3 x.h.nl.length e3))).heap[q + 1 + 1 + 1]? = some (.cells #[.string { data := #[] }, .slice none 0 0, .int .i64 0, .int .i64 0, .bool false, .int .i64 0, .int .i64 0, .int .i64 0, .int .u64 0, .int .u64 0, .int .i64 0, .int .u64 0, .int .i64 0, .slice none 0 0, .int .i64 0, .slice none 0 0, .int .i64 0] 37 (0, 0))) := Lib.hid ⟨setRow_heap _ _ _ _ _ _ (HB4.out (w15.drew) HNJ.out.k).2.2.1, HKx.out.same (HB4.out (w15.drew) HNJ.out.k).2.2.2 (by omega)⟩
      have HSx : Hid ((fun w' => w'.heap[g10]? = some (.cells (stC (stOf x) (.slice d2 x.h.pl.length e2) (.slice d3 x.h.nl.length e3)) 32 (0, 0)) ∧ w'.heap[g11]? = some (.cells NX 37 (0, 0))) ((w15.drew).setRow (q + 1 + 1) (stC (stOf x) (.slice d2 x.h.pl.length e2) (.slice d3 x.h.nl.length e3)))) := Lib.hid ⟨HKx.out.same HS0.out.1 (by have := (Array.getElem?_eq_some_iff.1 (HB4.out w4 (Kept.refl _ _)).2.2.2).1; have := HNJ.out.lt; omega), HKx.out.same HS0.out.2 (by have := (Array.getElem?_eq_some_iff.1 (HB4.out w4 (Kept.refl _ _)).2.2.2).1; have := HNJ.out.lt; omega)⟩
      refine hK.out _ _ (HSx.out) ?_
      clear hK K
      try simp only [Act.put, List.getElem_toArray, List.getElem_cons_succ, List.getElem_cons_zero]
      refine AnyBut.one (i := 3) (by kernel_rfl) rfl (fun K hK => ?_)
      refine step_store_row (by rfl) 37 (.tmp 7) (.tmp 66) (by rfl) (q + 1 + 1 + 1) NX (by rfl) (by rfl) 37 #[.string { data := #[] }, .slice none 0 0, .int .i64 0, .int .i64 0, .bool false, .int .i64 0, .int .i64 0, .int .i64 0, .int .u64 0, .int .u64 0, .int .i64 0, .int .u64 0, .int .i64 0, .slice none 0 0, .int .i64 0, .slice none 0 0, .int .i64 0] HBx.out.2 HIN.out (by rw [HNZ.out]; rfl) HSN.out.2 ?_
      have HKy : Hid (Kept (fun i => i = q + 1 + 1 + 1) ((w15.drew).setRow (q + 1 + 1) (stC (stOf x) (.slice d2 x.h.pl.length e2) (.slice d3 x.h.nl.length e3))) (((w15.drew).setRow (q + 1 + 1) (stC (stOf x) (.slice d2 x.h.pl.length e2) (.slice d3 x.h.nl.length e3))).setRow (q + 1 + 1 + 1) NX)) := Lib.hid (setRow_keptW _ _ _)
      have HBy : Hid ((((w15.drew).setRow (q + 1 + 1) (stC (stOf x) (.slice d2 x.h.pl.length e2) (.slice d3 x.h.nl.length e3))).setRow (q + 1 + 1 + 1) NX).heap[q + 1 + 1]? = some (.cells (stC (stOf x) (.slice d2 x.h.pl.length e2) (.slice d3 x.h.nl.length e3)) 32 (0, 0)) ∧ (((w15.drew).setRow (q + 1 + 1) (stC (stOf x) (.slice d2 x.h.pl.length e2) (.slice d3 x.h.nl.length e3))).setRow (q + 1 + 1 + 1) NX).heap[q + 1 + 1 + 1]? = some (.cells NX 37 (0, 0))) := Lib.hid ⟨HKy.out.same HBx.out.1 (by omega), setRow_heap _ _ _ _ _ _ HBx.out.2⟩
      have HSy : Hid ((fun w' => w'.heap[g10]? = some (.cells (stC (stOf x) (.slice d2 x.h.pl.length e2) (.slice d3 x.h.nl.length e3)) 32 (0, 0)) ∧ w'.heap[g11]? = some (.cells NX 37 (0, 0))) (((w15.drew).setRow (q + 1 + 1) (stC (stOf x) (.slice d2 x.h.pl.length e2) (.slice d3 x.h.nl.length e3))).setRow (q + 1 + 1 + 1) NX)) := Lib.hid ⟨HKy.out.same HSx.out.1 (by have := (Array.getElem?_eq_some_iff.1 (HB4.out w4 (Kept.refl _ _)).2.2.2).1; have := HNJ.out.lt; omega), HKy.out.same HSx.out.2 (by have := (Array.getElem?_eq_some_iff.1 (HB4.out w4 (Kept.refl _ _)).2.2.2).1; have := HNJ.out.lt; omega)⟩
      refine hK.out _ _ (HSy.out) ?_
      clear hK K
      try simp only [Act.put, List.getElem_toArray, List.getElem_cons_succ, List.getElem_cons_zero]
      refine AnyBut.takeS (i := 4) (v := ?v9) rfl (by kernel_rfl) (Nat.le_of_eq (by kernel_rfl)) (by kernel_rfl) (by kernel_rfl) (fun _ _ _ h => h) (HSy.out) (Or.inl ⟨by kernel_rfl, ?hy9⟩) ?r9
      case hy9 =>
        intro w hSw
        try dsimp only at hSw
        go_simp
        try with_reducible rfl
      try simp only [Act.put, List.getElem_toArray, List.getElem_cons_succ, List.getElem_cons_zero, List.setIfInBounds_toArray, List.set_cons_zero, List.set_cons_succ]
      refine AnyBut.done (by kernel_rfl) ?_
      go_wp2
      refine bodyPost_ret (results_cct Try.results33 _ _ (q + 1 + 1) (q + 1 + 1 + 1) 32 37 _ _ (0, 0) (0, 0) _ _ rfl HBy.out.1 Try.underlying32 rfl state_info rfl HBy.out.2 Try.underlying37 rfl HIN.out) rfl ?_
      have n0 := HNJ.out.new.down HK04.out
      have n1 := n0.set (HB4.out (w15.drew) HNJ.out.k).2.2.1 (by decide) (by decide) (by have := HGE.out; omega) HKx.out
      have hlast := n1.set HBx.out.2 (by decide) (by decide) (by have := HGE.out; omega) HKy.out
      refine ⟨_, _, _, rfl, ⟨rfl, rfl⟩, ?_⟩
      rw [HOW.out]
      have hgp := GotP.parts (y := lessW s { x with temp := 2, flags := 0, start := s.time }) hlast (lessW_parts _ _)
      rw [← HNX.out] at hgp
      exact hgp
    · have HOW : Hid (outW s x = { x with temp := 2, flags := movedI s x }) := Lib.hid (by unfold outW; rw [if_neg hm])
      have qm : (movedI s x == 0) = false := by rw [beq_eq_false_iff_ne]; exact hm
      obtain ⟨NX, hNX⟩ : ∃ a, a = pntC { x with temp := 2, flags := movedI s x } (.slice d1 x.L.length e1) (.slice d2 x.h.pl.length e2) (.slice d3 x.h.nl.length e3) := ⟨_, rfl⟩
      have HIN : Hid ((Try.prog.info? 37).map (·.size) = some NX.size) := Lib.hid (point_info.trans (by rw [hNX]; rfl))
      have HSN : Hid (NX.size = 17 ∧ NX.all (·.oneCell') = true) := Lib.hid (by rw [hNX]; exact ⟨rfl, pntC_one' (ones_slices _ _ _ _ _ _ _ _ _)⟩)
      rw [← hNX] at HNE
      have HNX := Lib.hid hNX
      clear hNX hm
      have HKD := Lib.hid ((Kept.refl (fun _ => False) w11).drew)
      have HNI := Lib.hid (HNE.out.on HKD.out)
      have HNZ : Hid (NX.size = 17) := Lib.hid (by rw [HNX.out]; rfl)
      have HS0 : Hid ((fun w' => w'.heap[g10]? = some (.cells (stC (stOf x) (.slice a2 x.h.pl.length c2) (.slice a3 x.h.nl.length c3)) 32 (0, 0)) ∧ w'.heap[g11]? = some (.cells NX 37 (0, 0))) (w11.drew)) := Lib.hid ⟨HNI.out.bn, HNI.out.bo⟩
      go_upto_region 13 with fail
      refine AnyBut.start (S := fun w' => w'.heap[g10]? = some (.cells (stC (stOf x) (.slice a2 x.h.pl.length c2) (.slice a3 x.h.nl.length c3)) 32 (0, 0)) ∧ w'.heap[g11]? = some (.cells NX 37 (0, 0))) (k := 5) (by kernel_rfl) ?_
      refine AnyBut.takeS (i := 0) (v := ?v10) rfl (by kernel_rfl) (Nat.le_of_eq (by kernel_rfl)) (by kernel_rfl) (by kernel_rfl) (fun _ _ _ h => h) (HS0.out) (Or.inl ⟨by kernel_rfl, ?hy10⟩) ?r10
      case hy10 =>
        intro w hSw
        try dsimp only at hSw
        refine exec_load_row 32 (.tmp 10) ?_ g10 ?_ 32 _ (0, 0) _ hSw.1 Try.underlying32 rfl state_info
        · rfl
        · rfl
      try simp only [Act.put, List.getElem_toArray, List.getElem_cons_zero, List.setIfInBounds_toArray, List.set_cons_zero, List.set_cons_succ]
      refine AnyBut.takeS (i := 1) (v := ?v11) rfl (by kernel_rfl) (Nat.le_of_eq (by kernel_rfl)) (by kernel_rfl) (by kernel_rfl) (fun _ _ _ h => h) (HS0.out) (Or.inl ⟨by kernel_rfl, ?hy11⟩) ?r11
      case hy11 =>
        intro w hSw
        try dsimp only at hSw
        refine exec_load_row 37 (.tmp 11) ?_ g11 ?_ 37 _ (0, 0) _ hSw.2 Try.underlying37 rfl HIN.out
        · rfl
        · rfl
      try simp only [Act.put, List.getElem_toArray, List.getElem_cons_succ, List.getElem_cons_zero, List.setIfInBounds_toArray, List.set_cons_zero, List.set_cons_succ]
      refine AnyBut.one (i := 2) (by kernel_rfl) rfl (fun K hK => ?_)
      refine step_store_row (by rfl) 32 (.tmp 6) (.tmp 65) (by rfl) (q + 1 + 1) (stC (stOf x) (.slice a2 x.h.pl.length c2) (.slice a3 x.h.nl.length c3)) (by rfl) (by rfl) 32 #[.bool false, .int .i64 0, .int .i64 0, .int .i64 0, .int .u64 0, .int .u64 0, .int .i64 0, .int .u64 0, .int .i64 0, .slice none 0 0, .int .i64 0, .slice none 0 0] (HB4.out (w11.drew) HNI.out.k).2.2.1 state_info rfl (stC_one ⟨rfl, rfl⟩) ?_
      have HKx : Hid (Kept (fun i => i = q + 1 + 1) (w11.drew) ((w11.drew).setRow (q + 1 + 1) (stC (stOf x) (.slice a2 x.h.pl.length c2) (.slice a3 x.h.nl.length c3)))) := Lib.hid (setRow_keptW _ _ _)
      have HBx : Hid (((w11.drew).setRow (q + 1 + 1) (stC (stOf x) (.slice a2 x.h.pl.length c2) (.slice a3 x.h.nl.length c3))).heap[q + 1 + 1]? = some (.cells (stC (stOf x) (.slice a2 x.h.pl.length c2) (.slice a3 x.h.nl.length c3)) 32 (0, 0)) ∧ ((w11.drew).setRow (q + 1 + 1) (stC (stOf x) (.slice a2 x.h.pl.length c2) (.slice a3 x.h.nl.length c3))).heap[q + 1 + 1 + 1]? = some (.cells #[.string { data := #[] }, .slice none 0 0, .int .i64 0, .int .i64 0, .bool false, .int .i64 0, .int .i64 0, .int .i64 0, .int .u64 0, .int .u64 0, .int .i64 0, .int .u64 0, .int .i64 0, .slice none 0 0, .int .i64 0, .slice none 0 0, .int .i64 0] 37 (0, 0))) := Lib.hid ⟨setRow_heap _ _ _ _ _ _ (HB4.out (w11.drew) HNI.out.k).2.2.1, HKx.out.same (HB4.out (w11.drew) HNI.out.k).2.2.2 (by omega)⟩
      have HSx : Hid ((fun w' => w'.heap[g10]? = some (.cells (stC (stOf x) (.slice a2 x.h.pl.length c2) (.slice a3 x.h.nl.length c3)) 32 (0, 0)) ∧ w'.heap[g11]? = some (.cells NX 37 (0, 0))) ((w11.drew).setRow (q + 1 + 1) (stC (stOf x) (.slice a2 x.h.pl.length c2) (.slice a3 x.h.nl.length c3)))) := Lib.hid ⟨HKx.out.same HS0.out.1 (by have := (Array.getElem?_eq_some_iff.1 (HB4.out w4 (Kept.refl _ _)).2.2.2).1; have := HNI.out.lt; omega), HKx.out.same HS0.out.2 (by have := (Array.getElem?_eq_some_iff.1 (HB4.out w4 (Kept.refl _ _)).2.2.2).1; have := HNI.out.lt; omega)⟩
      refine hK.out _ _ (HSx.out) ?_
      clear hK K
      try simp only [Act.put, List.getElem_toArray, List.getElem_cons_succ, List.getElem_cons_zero]
      refine AnyBut.one (i := 3) (by kernel_rfl) rfl (fun K hK => ?_)
      refine step_store_row (by rfl) 37 (.tmp 7) (.tmp 66) (by rfl) (q + 1 + 1 + 1) NX (by rfl) (by rfl) 37 #[.string { data := #[] }, .slice none 0 0, .int .i64 0, .int .i64 0, .bool false, .int .i64 0, .int .i64 0, .int .i64 0, .int .u64 0, .int .u64 0, .int .i64 0, .int .u64 0, .int .i64 0, .slice none 0 0, .int .i64 0, .slice none 0 0, .int .i64 0] HBx.out.2 HIN.out (by rw [HNZ.out]; rfl) HSN.out.2 ?_
      have HKy : Hid (Kept (fun i => i = q + 1 + 1 + 1) ((w11.drew).setRow (q + 1 + 1) (stC (stOf x) (.slice a2 x.h.pl.length c2) (.slice a3 x.h.nl.length c3))) (((w11.drew).setRow (q + 1 + 1) (stC (stOf x) (.slice a2 x.h.pl.length c2) (.slice a3 x.h.nl.length c3))).setRow (q + 1 + 1 + 1) NX)) := Lib.hid (setRow_keptW _ _ _)
      have HBy : Hid ((((w11.drew).setRow (q + 1 + 1) (stC (stOf x) (.slice a2 x.h.pl.length c2) (.slice a3 x.h.nl.length c3))).setRow (q + 1 + 1 + 1) NX).heap[q + 1 + 1]? = some (.cells (stC (stOf x) (.slice a2 x.h.pl.length c2) (.slice a3 x.h.nl.length c3)) 32 (0, 0)) ∧ (((w11.drew).setRow (q + 1 + 1) (stC (stOf x) (.slice a2 x.h.pl.length c2) (.slice a3 x.h.nl.length c3))).setRow (q + 1 + 1 + 1) NX).heap[q + 1 + 1 + 1]? = some (.cells NX 37 (0, 0))) := Lib.hid ⟨HKy.out.same HBx.out.1 (by omega), setRow_heap _ _ _ _ _ _ HBx.out.2⟩
      have HSy : Hid ((fun w' => w'.heap[g10]? = some (.cells (stC (stOf x) (.slice a2 x.h.pl.length c2) (.slice a3 x.h.nl.length c3)) 32 (0, 0)) ∧ w'.heap[g11]? = some (.cells NX 37 (0, 0))) (((w11.drew).setRow (q + 1 + 1) (stC (stOf x) (.slice a2 x.h.pl.length c2) (.slice a3 x.h.nl.length c3))).setRow (q + 1 + 1 + 1) NX)) := Lib.hid ⟨HKy.out.same HSx.out.1 (by have := (Array.getElem?_eq_some_iff.1 (HB4.out w4 (Kept.refl _ _)).2.2.2).1; have := HNI.out.lt; omega), HKy.out.same HSx.out.2 (by have := (Array.getElem?_eq_some_iff.1 (HB4.out w4 (Kept.refl _ _)).2.2.2).1; have := HNI.out.lt; omega)⟩
      refine hK.out _ _ (HSy.out) ?_
      clear hK K
      try simp only [Act.put, List.getElem_toArray, List.getElem_cons_succ, List.getElem_cons_zero]
      refine AnyBut.takeS (i := 4) (v := ?v12) rfl (by kernel_rfl) (Nat.le_of_eq (by kernel_rfl)) (by kernel_rfl) (by kernel_rfl) (fun _ _ _ h => h) (HSy.out) (Or.inl ⟨by kernel_rfl, ?hy12⟩) ?r12
      case hy12 =>
        intro w hSw
        try dsimp only at hSw
        go_simp
        try with_reducible rfl
      try simp only [Act.put, List.getElem_toArray, List.getElem_cons_succ, List.getElem_cons_zero, List.setIfInBounds_toArray, List.set_cons_zero, List.set_cons_succ]
      refine AnyBut.done (by kernel_rfl) ?_
      go_wp2
      refine bodyPost_ret (results_cct Try.results33 _ _ (q + 1 + 1) (q + 1 + 1 + 1) 32 37 _ _ (0, 0) (0, 0) _ _ rfl HBy.out.1 Try.underlying32 rfl state_info rfl HBy.out.2 Try.underlying37 rfl HIN.out) rfl ?_
      have n0 := HNI.out.new.down HK04.out
      have n1 := n0.set (HB4.out (w11.drew) HNI.out.k).2.2.1 (by decide) (by decide) (by have := HGE.out; omega) HKx.out
      have hlast := n1.set HBx.out.2 (by decide) (by decide) (by have := HGE.out; omega) HKy.out
      refine ⟨_, _, _, rfl, ⟨rfl, rfl⟩, ?_⟩
      rw [HOW.out]
      have hgp := GotP.parts (y := { x with temp := 2, flags := movedI s x }) hlast ⟨rfl, rfl⟩
      rw [← HNX.out] at hgp
      exact hgp
end Go.Proofs.Ytiiibhdohlpodaa
