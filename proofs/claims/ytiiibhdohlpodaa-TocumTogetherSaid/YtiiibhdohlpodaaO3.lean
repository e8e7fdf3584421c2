/- Layer 15: turn.Fitted, turn.Taken (written by tools/gen_XO3.py). -/
import Derived.Test.YtiiibhdohlpodaaO2
namespace Go.Proofs.Ytiiibhdohlpodaa
open Go.RowKit
attribute [local go_sem ↓] Go.wp_at_zero Go.wp_at_succ

theorem step_store_row {P : Program} {ops : Array Oper} {o : Oper} {a : Act} {w : World} {K : Act → World → Prop} {Q : Exit → Act → World → Prop} {E : Prop} (hgd : o.guard = none) (ty : TypeId) (x y : Operand) (ho : o.op = .store ty x y)
    (g : Nat) (cells : Array Value) (hx : a.eval x = .pointer (some ⟨g, 0, none⟩)) (hy : a.eval y = .agg cells) (t : TypeId) (old : Array Value) (hg : w.heap[g]? = some (.cells old t (0, 0))) (hi : (P.info? ty).map (·.size) = some cells.size)
    (hold : old.size = cells.size) (h1 : cells.all (·.oneCell') = true) (h : K (a.put o.dst undef) (w.setRow g cells)) : if Region.wanted o (yielded ops a.tmps) = true then Oper.wp P o a w K Q else E := by
  rw [if_pos (by simp [Region.wanted, hgd])]
  exact wp_store_row ty x y ho g cells hx hy t old hg hi hold h1 h
/-- A whole value is stored into a box that was just made. -/
theorem wpList_store_box {P : Program} {ops : Array Oper} {rest : List Oper} {o : Oper} {a : Act} {w : World} {Q : Exit → Act → World → Prop} (hgd : o.guard = none) (ty : TypeId) (x y : Operand) (ho : o.op = .store ty x y)
    (w0 : World) (old cells : Array Value) (t : TypeId) (hw : w = w0.alloc (.cells old t)) (hx : a.eval x = .pointer (some ⟨w0.heap.size, 0, none⟩)) (hy : a.eval y = .agg cells)
    (hi : (P.info? ty).map (·.size) = some cells.size) (hold : old.size = cells.size) (h1 : cells.all (·.oneCell') = true)
    (h : ∀ w', w'.heap[w0.heap.size]? = some (.cells cells t (0, 0)) → Kept (fun _ => False) w0 w' → wpList P ops Q rest (a.put o.dst undef) w') : wpList P ops Q (o :: rest) a w := by
  subst hw
  refine wpList_store_row hgd ty x y ho _ cells hx hy t old (heap_alloc_new w0 _) hi hold h1 (h _ (setRow_heap _ _ _ _ _ _ (heap_alloc_new w0 _)) ?_)
  exact ((Kept.refl (fun _ => False) w0).alloc _).newer (setRow_keptW _ _ _) (fun i e => by rw [e]; exact Nat.le_refl _)
theorem results_cc {P : Program} {fn : Func} {p p2 : Tmp} {ty ty2 : TypeId} (h : fn.results = #[.cell p ty, .cell p2 ty2]) (tmps : Array Value) (w : World) (g g2 : Nat) (t' t2 : TypeId) (cs cs2 : Array Value) (fr fr2 : Nat × Nat) (d d2 : TypeDesc)
    (hp : tmps.getD p undef = .pointer (some ⟨g, 0, none⟩)) (hg : w.heap[g]? = some (.cells cs t' fr))
    (hu : P.underlying ty = some d) (hd : (match d with | .struct _ | .array _ _ => true | _ => false) = true) (hi : (P.info? ty).map (·.size) = some cs.size)
    (hp2 : tmps.getD p2 undef = .pointer (some ⟨g2, 0, none⟩)) (hg2 : w.heap[g2]? = some (.cells cs2 t2 fr2))
    (hu2 : P.underlying ty2 = some d2) (hd2 : (match d2 with | .struct _ | .array _ _ => true | _ => false) = true) (hi2 : (P.info? ty2).map (·.size) = some cs2.size) :
    (results fn tmps).run P w = .ok (.tuple #[.agg cs, .agg cs2]) w := by
  have hp' : tmps[p]?.getD undef = .pointer (some ⟨g, 0, none⟩) := by simpa using hp
  have hp2' : tmps[p2]?.getD undef = .pointer (some ⟨g2, 0, none⟩) := by simpa using hp2
  simp [results, h, hp', hp2', asAddr, run_loadVar_row w g t' ty cs fr d hg hu hd hi, run_loadVar_row w g2 t2 ty2 cs2 fr2 d2 hg2 hu2 hd2 hi2]
theorem results_cct {P : Program} {fn : Func} {p p2 s : Tmp} {ty ty2 : TypeId} (h : fn.results = #[.cell p ty, .cell p2 ty2, .tmp s]) (tmps : Array Value) (w : World) (g g2 : Nat) (t' t2 : TypeId) (cs cs2 : Array Value) (fr fr2 : Nat × Nat) (d d2 : TypeDesc)
    (hp : tmps.getD p undef = .pointer (some ⟨g, 0, none⟩)) (hg : w.heap[g]? = some (.cells cs t' fr))
    (hu : P.underlying ty = some d) (hd : (match d with | .struct _ | .array _ _ => true | _ => false) = true) (hi : (P.info? ty).map (·.size) = some cs.size)
    (hp2 : tmps.getD p2 undef = .pointer (some ⟨g2, 0, none⟩)) (hg2 : w.heap[g2]? = some (.cells cs2 t2 fr2))
    (hu2 : P.underlying ty2 = some d2) (hd2 : (match d2 with | .struct _ | .array _ _ => true | _ => false) = true) (hi2 : (P.info? ty2).map (·.size) = some cs2.size) :
    (results fn tmps).run P w = .ok (.tuple #[.agg cs, .agg cs2, tmps.getD s undef]) w := by
  have hp' : tmps[p]?.getD undef = .pointer (some ⟨g, 0, none⟩) := by simpa using hp
  have hp2' : tmps[p2]?.getD undef = .pointer (some ⟨g2, 0, none⟩) := by simpa using hp2
  simp [results, h, hp', hp2', asAddr, run_loadVar_row w g t' ty cs fr d hg hu hd hi, run_loadVar_row w g2 t2 ty2 cs2 fr2 d2 hg2 hu2 hd2 hi2]
theorem state_info : (Try.prog.info? 32).map (·.size) = some 12 := by kernel_rfl
/-- A point whose parts are new. -/
structure NewP (W w : World) (x : Pnt) (a1 a2 a3 : Option Addr) (c1 c2 c3 : Nat) : Prop where
  at_ : MineP W w (.slice a1 x.L.length c1) x.L
  mp : Mine W w 25 (.slice a2 x.h.pl.length c2) (uvals x.h.pl)
  mn : Mine W w 25 (.slice a3 x.h.nl.length c3) (uvals x.h.nl)
theorem NewP.on {W w w' : World} {x : Pnt} {a1 a2 a3 : Option Addr} {c1 c2 c3 : Nat} (h : NewP W w x a1 a2 a3 c1 c2 c3) (k : Kept (fun _ => False) w w') : NewP W w' x a1 a2 a3 c1 c2 c3 := ⟨h.at_.on k, h.mp.on k, h.mn.on k⟩
theorem NewP.down {W0 W w : World} {x : Pnt} {a1 a2 a3 : Option Addr} {c1 c2 c3 : Nat} (h : NewP W w x a1 a2 a3 c1 c2 c3) (k : Kept (fun _ => False) W0 W) : NewP W0 w x a1 a2 a3 c1 c2 c3 := ⟨h.at_.down k, h.mp.down k, h.mn.down k⟩
theorem NewP.pnt {W w : World} {x : Pnt} {a1 a2 a3 : Option Addr} {c1 c2 c3 : Nat} (h : NewP W w x a1 a2 a3 c1 c2 c3) : PntAt w x a1 c1 (.slice a2 x.h.pl.length c2) (.slice a3 x.h.nl.length c3) := ⟨h.at_.at_, own_capW h.at_.own, ⟨h.mp.at_, h.mn.at_⟩⟩
theorem NewP.nil {W w : World} (k : Kept (fun _ => False) W w) : NewP W w zeroPt none none none 0 0 0 := ⟨MineP.nil k, Mine.nil' _ k, Mine.nil' _ k⟩
/-- A point in a value, its parts new. -/
def GotP (W w : World) (x : Pnt) (v : Value) : Prop := ∃ a1 a2 a3 c1 c2 c3, v = pntV x (.slice a1 x.L.length c1) (.slice a2 x.h.pl.length c2) (.slice a3 x.h.nl.length c3) ∧ NewP W w x a1 a2 a3 c1 c2 c3
theorem GotP.cells {W w : World} {x : Pnt} {v : Value} (h : GotP W w x v) : ∃ CY, v = .agg CY ∧ ((Try.prog.info? 37).map (·.size) = some CY.size) ∧ CY.size = 17 ∧ CY.all (·.oneCell') = true := by
  obtain ⟨a1, a2, a3, c1, c2, c3, rfl, _⟩ := h
  exact ⟨_, rfl, point_info, rfl, pntC_one' (ones_slices _ _ _ _ _ _ _ _ _)⟩
theorem GotP.on {W w w' : World} {x : Pnt} {v : Value} (h : GotP W w x v) (k : Kept (fun _ => False) w w') : GotP W w' x v := by
  obtain ⟨a1, a2, a3, c1, c2, c3, e, n⟩ := h
  exact ⟨a1, a2, a3, c1, c2, c3, e, n.on k⟩
theorem GotP.down {W0 W w : World} {x : Pnt} {v : Value} (h : GotP W w x v) (k : Kept (fun _ => False) W0 W) : GotP W0 w x v := by
  obtain ⟨a1, a2, a3, c1, c2, c3, e, n⟩ := h
  exact ⟨a1, a2, a3, c1, c2, c3, e, n.down k⟩
theorem GotP.zero {W w : World} (k : Kept (fun _ => False) W w) : GotP W w zeroPt (.agg #[.string { data := #[] }, .slice none 0 0, .int .i64 0, .int .i64 0, .bool false, .int .i64 0, .int .i64 0, .int .i64 0, .int .u64 0, .int .u64 0, .int .i64 0, .int .u64 0, .int .i64 0, .slice none 0 0, .int .i64 0, .slice none 0 0, .int .i64 0]) := ⟨none, none, none, 0, 0, 0, rfl, NewP.nil k⟩
theorem GotP.kept {W w : World} {x : Pnt} {v : Value} (h : GotP W w x v) : Kept (fun _ => False) W w := by
  obtain ⟨a1, a2, a3, c1, c2, c3, e, n⟩ := h
  exact n.at_.kept
theorem pclone_got (x : Pnt) (aa pa na : Option Addr) (ac pc nc : Nat) (w : World) (ha : PntAt w x aa ac (.slice pa x.h.pl.length pc) (.slice na x.h.nl.length nc)) (hli : x.light) :
    Calls Try.prog 62 #[pntV x (.slice aa x.L.length ac) (.slice pa x.h.pl.length pc) (.slice na x.h.nl.length nc)] w fun e w' => ∃ v, e = .returned v ∧ GotP w w' x v := by
  refine (pClone_any x aa pa na ac pc nc w ha hli).mono ?_
  rintro e w' ⟨a1, c1, a2, c2, a3, c3, rfl, m1, m2, m3⟩
  exact ⟨_, rfl, a1, a2, a3, c1, c2, c3, rfl, m1, m2, m3⟩
/-- A row of the base's own is written: what is new stays. -/
theorem GotP.row {W0 W w : World} {x : Pnt} {v : Value} (h : GotP W w x v) {q : Nat} (k : Kept (fun _ => False) W0 W) (hq : q < W.heap.size) (h0 : W0.heap.size ≤ q) (cs : Array Value) : GotP W0 (w.setRow q cs) x v := by
  obtain ⟨a1, a2, a3, c1, c2, c3, e, n⟩ := h
  have kk := setRow_keptW w q cs
  have n4 := n.down k
  exact ⟨a1, a2, a3, c1, c2, c3, e, n4.at_.keptS kk (fun k e1 e2 => by have := (ownsRow_lt n.at_.own e1).2; omega) (fun k e => by omega), n4.mp.keptS kk (fun k e1 e2 => by have := (ownsRow_lt n.mp.own e1).2; omega) (fun k e => by omega), n4.mn.keptS kk (fun k e1 e2 => by have := (ownsRow_lt n.mn.own e1).2; omega) (fun k e => by omega)⟩
set_option maxHeartbeats 4000000 in
set_option maxRecDepth 100000 in
theorem fitted_any (x : Pnt) (aa pa na : Option Addr) (ac pc nc : Nat) (most : Int) (w : World) (ha : PntAt w x aa ac (.slice pa x.h.pl.length pc) (.slice na x.h.nl.length nc)) (hli : x.light) (hk : x.kind ≠ 4) :
    Calls Try.prog 70 #[pntV x (.slice aa x.L.length ac) (.slice pa x.h.pl.length pc) (.slice na x.h.nl.length nc), .int .i64 most] w fun e w' => ∃ v, e = .returned (.tuple #[v, .int .i64 (if x.flags = 0 then 0 else 3)]) ∧ GotP w w' (if x.flags = 0 then x else zeroPt) v := by
  have HKD := Lib.hid hk
  clear hk
  obtain ⟨q, hq⟩ : ∃ q, q = w.heap.size := ⟨_, rfl⟩
  obtain ⟨CX, hCX⟩ : ∃ a, a = pntC x (.slice aa x.L.length ac) (.slice pa x.h.pl.length pc) (.slice na x.h.nl.length nc) := ⟨_, rfl⟩
  have hvx : pntV x (.slice aa x.L.length ac) (.slice pa x.h.pl.length pc) (.slice na x.h.nl.length nc) = .agg CX := by rw [hCX]; rfl
  have HIX : Hid ((Try.prog.info? 37).map (·.size) = some CX.size) := Lib.hid (point_info.trans (by rw [hCX]; rfl))
  obtain ⟨w2, hw2⟩ : ∃ w2, w2 = (w.alloc (.cells CX 37)).alloc (.cells #[.string { data := #[] }, .slice none 0 0, .int .i64 0, .int .i64 0, .bool false, .int .i64 0, .int .i64 0, .int .i64 0, .int .u64 0, .int .u64 0, .int .i64 0, .int .u64 0, .int .i64 0, .slice none 0 0, .int .i64 0, .slice none 0 0, .int .i64 0] 37) := ⟨_, rfl⟩
  have k2 : Kept (fun _ => False) w w2 := by rw [hw2]; exact ((Kept.refl _ _).alloc _).alloc _
  have hb1 : w2.heap[q]? = some (.cells CX 37 (0, 0)) := by rw [hw2, hq]; exact ((Kept.refl (fun _ => False) _).alloc _).same (heap_alloc_new w _) (fun x => x)
  have hb2 : w2.heap[q + 1]? = some (.cells #[.string { data := #[] }, .slice none 0 0, .int .i64 0, .int .i64 0, .bool false, .int .i64 0, .int .i64 0, .int .i64 0, .int .u64 0, .int .u64 0, .int .i64 0, .int .u64 0, .int .i64 0, .slice none 0 0, .int .i64 0, .slice none 0 0, .int .i64 0] 37 (0, 0)) := by rw [hw2, hq]; exact box_second2 w _ _
  have HBX : Hid (∀ w', Kept (fun _ => False) w2 w' → w'.heap[q]? = some (.cells CX 37 (0, 0)) ∧ w'.heap[q + 1]? = some (.cells #[.string { data := #[] }, .slice none 0 0, .int .i64 0, .int .i64 0, .bool false, .int .i64 0, .int .i64 0, .int .i64 0, .int .u64 0, .int .u64 0, .int .i64 0, .int .u64 0, .int .i64 0, .slice none 0 0, .int .i64 0, .slice none 0 0, .int .i64 0] 37 (0, 0))) := Lib.hid (fun w' k => ⟨k.same hb1 (fun x => x), k.same hb2 (fun x => x)⟩)
  have HX := Lib.hid (fun w' (k : Kept (fun _ => False) w2 w') => ha.on (k2.trans k))
  have HCX := Lib.hid hCX
  have HW2 := Lib.hid (And.intro hw2 hq)
  have HK02 := Lib.hid k2
  have HGE : Hid (w.heap.size ≤ q) := Lib.hid (by omega)
  have HCL := Lib.hid (fun w' (k : Kept (fun _ => False) w2 w') => pclone_got x aa pa na ac pc nc w' (HX.out w' k) hli)
  rw [hvx] at HCL ⊢
  have p16 : w2.cell? ⟨q, 16, none⟩ = some (.int .i64 x.flags) := cell_rowZ 16 _ hb1 (by rw [hCX]; rfl)
  have HP2 : Hid (∀ w', Kept (fun _ => False) w2 w' → w'.cell? ⟨q, 2, none⟩ = some (.int .i64 x.kind)) := Lib.hid (fun w' k => cell_rowZ 2 _ (HBX.out w' k).1 (by rw [HCX.out]; rfl))
  clear hw2 hq k2 hb1 hb2 hvx hCX ha hli
  by_cases h1 : x.flags = 0
  case neg =>
    rw [if_neg h1, if_neg h1]
    have q1 : (x.flags != 0) = true := by simpa using h1
    clear h1
    go_enter Try.func70, Try.ntmps70
    go_upto_region 1 with fail
    rw [← HW2.out.1, ← HW2.out.2]
    go_wp2_with (first
      | (refine wpList_store_row rfl 37 (.tmp 4) _ rfl (q + 1) #[.string { data := #[] }, .slice none 0 0, .int .i64 0, .int .i64 0, .bool false, .int .i64 0, .int .i64 0, .int .i64 0, .int .u64 0, .int .u64 0, .int .i64 0, .int .u64 0, .int .i64 0, .slice none 0 0, .int .i64 0, .slice none 0 0, .int .i64 0] rfl rfl 37 _ (HBX.out w2 (Kept.refl _ _)).2 point_info rfl (pntC_one' (x := zeroPt) (ones_slices _ _ _ _ _ _ _ _ _)) ?_)
      | fail)
    refine bodyPost_ret (results_ct Try.results70 _ _ (q + 1) 37 _ (0, 0) _ rfl (setRow_heap _ _ _ _ _ _ (HBX.out w2 (Kept.refl _ _)).2) Try.underlying37 rfl point_info) rfl ?_
    exact ⟨_, rfl, GotP.zero (HK02.out.newer (setRow_keptW _ _ _) (fun i e => by have := HGE.out; omega))⟩
  rw [if_pos h1, if_pos h1]
  rw [h1] at p16
  clear h1
  go_enter Try.func70, Try.ntmps70
  go_upto_region 1 with fail
  rw [← HW2.out.1, ← HW2.out.2]
  go_upto_region 3 with fail
  go_wp2_with (first
    | (refine wpList_load_row rfl 37 (.tmp 2) rfl q rfl 37 _ (0, 0) _ (HBX.out w2 (Kept.refl _ _)).1 Try.underlying37 rfl HIX.out ?_)
    | fail)
  refine (HCL.out w2 (Kept.refl _ _)).mono ?_
  rintro e w3 ⟨v, rfl, g3⟩
  have HG3 := Lib.hid g3
  obtain ⟨CY, rfl, hi, hs, h1⟩ := g3.cells
  have HIY := Lib.hid hi
  have HSY := Lib.hid (And.intro hs h1)
  have HK3 := Lib.hid g3.kept
  clear g3 hi hs h1
  obtain ⟨g6, hg6⟩ : ∃ g, g = w3.heap.size := ⟨_, rfl⟩
  have HG6 := Lib.hid hg6
  clear hg6
  go_upto_region 4 with (refine wpList_store_box rfl 37 (.tmp 6) _ rfl w3 _ CY 37 rfl rfl rfl HIY.out (by rw [HSY.out.1]; rfl) HSY.out.2 ?_; intro w4 hb4 k4; have HB4 : Hid (w4.heap[g6]? = some (.cells CY 37 (0, 0))) := Lib.hid (by rw [HG6.out]; exact hb4); have HK34 := Lib.hid k4; have HK4 := Lib.hid (HK3.out.trans k4); clear hb4 k4)
  rw [← HG6.out]
  have p2 := HP2.out w4 HK4.out
  have q4 : (x.kind != 4) = true := by simpa using HKD.out
  go_wp2_with (first
    | (refine wpList_load_row rfl 37 (.tmp 6) rfl g6 rfl 37 _ (0, 0) _ HB4.out Try.underlying37 rfl HIY.out ?_)
    | (refine wpList_store_row rfl 37 (.tmp 4) _ rfl (q + 1) CY rfl rfl 37 _ (HBX.out w4 HK4.out).2 HIY.out (by rw [HSY.out.1]; rfl) HSY.out.2 ?_)
    | fail)
  refine bodyPost_ret (results_ct Try.results70 _ _ (q + 1) 37 _ (0, 0) _ rfl (setRow_heap _ _ _ _ _ _ (HBX.out w4 HK4.out).2) Try.underlying37 rfl HIY.out) rfl ?_
  have kk : Kept (fun k => k = q + 1) w4 (w4.setRow (q + 1) CY) := setRow_keptW _ _ _
  obtain ⟨a1, a2, a3, c1, c2, c3, e, n⟩ := HG3.out
  have n4 := (n.on HK34.out).down HK02.out
  have hne : w2.heap.size ≠ 0 ∧ q + 1 < w2.heap.size := by have := (Array.getElem?_eq_some_iff.1 (HBX.out w2 (Kept.refl _ _)).2).1; omega
  have hlt := fun (v : Value) (B : Nat) (E : TypeId) (s m : Nat) (xs : List Value) (h : w4.ownsRow w2.heap.size E s v m xs) (k : Nat) (e : v.ownBlock = some k) => (ownsRow_lt h e).2
  have n3 := n.on HK34.out
  refine ⟨_, rfl, a1, a2, a3, c1, c2, c3, e, ?_, ?_, ?_⟩
  · exact n4.at_.keptS kk (fun k e1 e2 => by have := (ownsRow_lt n3.at_.own e1).2; omega) (fun k e => by have := HGE.out; omega)
  · exact n4.mp.keptS kk (fun k e1 e2 => by have := (ownsRow_lt n3.mp.own e1).2; omega) (fun k e => by have := HGE.out; omega)
  · exact n4.mn.keptS kk (fun k e1 e2 => by have := (ownsRow_lt n3.mn.own e1).2; omega) (fun k e => by have := HGE.out; omega)
set_option maxHeartbeats 4000000 in
set_option maxRecDepth 100000 in
theorem taken_any (x : Pnt) (aa pa na : Option Addr) (ac pc nc : Nat) (temp most : Int) (w : World) (ha : PntAt w x aa ac (.slice pa x.h.pl.length pc) (.slice na x.h.nl.length nc)) (hok : x.ok) (hli : x.light) (hk : x.kind ≠ 4) :
    Calls Try.prog 48 #[pntV x (.slice aa x.L.length ac) (.slice pa x.h.pl.length pc) (.slice na x.h.nl.length nc), .int .i64 temp, .int .i64 most] w fun e w' => ∃ v, e = .returned (.tuple #[v, .int .i64 ((takenE x temp : Nat) : Int)]) ∧ GotP w w' (if takenE x temp = 0 then x else zeroPt) v := by
  obtain ⟨q, hq⟩ : ∃ q, q = w.heap.size := ⟨_, rfl⟩
  obtain ⟨CX, hCX⟩ : ∃ a, a = pntC x (.slice aa x.L.length ac) (.slice pa x.h.pl.length pc) (.slice na x.h.nl.length nc) := ⟨_, rfl⟩
  have hvx : pntV x (.slice aa x.L.length ac) (.slice pa x.h.pl.length pc) (.slice na x.h.nl.length nc) = .agg CX := by rw [hCX]; rfl
  have HIX : Hid ((Try.prog.info? 37).map (·.size) = some CX.size) := Lib.hid (point_info.trans (by rw [hCX]; rfl))
  obtain ⟨w2, hw2⟩ : ∃ w2, w2 = (w.alloc (.cells CX 37)).alloc (.cells #[.string { data := #[] }, .slice none 0 0, .int .i64 0, .int .i64 0, .bool false, .int .i64 0, .int .i64 0, .int .i64 0, .int .u64 0, .int .u64 0, .int .i64 0, .int .u64 0, .int .i64 0, .slice none 0 0, .int .i64 0, .slice none 0 0, .int .i64 0] 37) := ⟨_, rfl⟩
  have k2 : Kept (fun _ => False) w w2 := by rw [hw2]; exact ((Kept.refl _ _).alloc _).alloc _
  have hb1 : w2.heap[q]? = some (.cells CX 37 (0, 0)) := by rw [hw2, hq]; exact ((Kept.refl (fun _ => False) _).alloc _).same (heap_alloc_new w _) (fun x => x)
  have hb2 : w2.heap[q + 1]? = some (.cells #[.string { data := #[] }, .slice none 0 0, .int .i64 0, .int .i64 0, .bool false, .int .i64 0, .int .i64 0, .int .i64 0, .int .u64 0, .int .u64 0, .int .i64 0, .int .u64 0, .int .i64 0, .slice none 0 0, .int .i64 0, .slice none 0 0, .int .i64 0] 37 (0, 0)) := by rw [hw2, hq]; exact box_second2 w _ _
  have HBX : Hid (∀ w', Kept (fun _ => False) w2 w' → w'.heap[q]? = some (.cells CX 37 (0, 0)) ∧ w'.heap[q + 1]? = some (.cells #[.string { data := #[] }, .slice none 0 0, .int .i64 0, .int .i64 0, .bool false, .int .i64 0, .int .i64 0, .int .i64 0, .int .u64 0, .int .u64 0, .int .i64 0, .int .u64 0, .int .i64 0, .slice none 0 0, .int .i64 0, .slice none 0 0, .int .i64 0] 37 (0, 0))) := Lib.hid (fun w' k => ⟨k.same hb1 (fun x => x), k.same hb2 (fun x => x)⟩)
  have HX := Lib.hid (fun w' (k : Kept (fun _ => False) w2 w') => ha.on (k2.trans k))
  have HCX := Lib.hid hCX
  have HW2 := Lib.hid (And.intro hw2 hq)
  have HK02 := Lib.hid k2
  have HGE : Hid (w.heap.size ≤ q) := Lib.hid (by omega)
  have HCH := Lib.hid (fun w' (k : Kept (fun _ => False) w2 w') => pCheck_any x aa pa na ac pc nc w' (HX.out w' k) hok hli)
  have HFT := Lib.hid (fun w' (k : Kept (fun _ => False) w2 w') => fitted_any x aa pa na ac pc nc most w' (HX.out w' k) hli hk)
  rw [hvx] at HCH HFT ⊢
  have HP3 : Hid (∀ w', Kept (fun _ => False) w2 w' → w'.cell? ⟨q, 3, none⟩ = some (.int .i64 x.temp)) := Lib.hid (fun w' k => cell_rowZ 3 _ (HBX.out w' k).1 (by rw [HCX.out]; rfl))
  obtain ⟨n, hn⟩ : ∃ n : Int, n = ((chk x : Nat) : Int) := ⟨_, rfl⟩
  rw [← hn] at HCH
  clear hw2 hq k2 hb1 hb2 hvx hCX ha hli hk hok
  by_cases h1 : chk x = 0
  case neg =>
    rw [show takenE x temp = chk x by unfold takenE; rw [if_pos h1], if_neg h1, ← hn]
    have q1 : (n != 0) = true := by rw [bne_iff_ne]; omega
    clear h1 hn
    go_enter Try.func48, Try.ntmps48
    go_upto_region 1 with fail
    rw [← HW2.out.1, ← HW2.out.2]
    go_wp2_with (first
      | (refine wpList_load_row rfl 37 (.tmp 3) rfl q rfl 37 _ (0, 0) _ (HBX.out w2 (Kept.refl _ _)).1 Try.underlying37 rfl HIX.out ?_)
      | fail)
    refine (HCH.out w2 (Kept.refl _ _)).mono ?_
    rintro e w3 ⟨rfl, k3⟩
    have HK3 := Lib.hid k3
    clear k3
    go_wp2_with (first
      | (refine wpList_store_row rfl 37 (.tmp 6) _ rfl (q + 1) #[.string { data := #[] }, .slice none 0 0, .int .i64 0, .int .i64 0, .bool false, .int .i64 0, .int .i64 0, .int .i64 0, .int .u64 0, .int .u64 0, .int .i64 0, .int .u64 0, .int .i64 0, .slice none 0 0, .int .i64 0, .slice none 0 0, .int .i64 0] rfl rfl 37 _ (HBX.out w3 HK3.out).2 point_info rfl (pntC_one' (x := zeroPt) (ones_slices _ _ _ _ _ _ _ _ _)) ?_)
      | fail)
    refine bodyPost_ret (results_ct Try.results48 _ _ (q + 1) 37 _ (0, 0) _ rfl (setRow_heap _ _ _ _ _ _ (HBX.out w3 HK3.out).2) Try.underlying37 rfl point_info) rfl ?_
    exact ⟨_, rfl, GotP.zero ((HK02.out.trans HK3.out).newer (setRow_keptW _ _ _) (fun i e => by have := HGE.out; omega))⟩
  have hn0 : n = 0 := by omega
  subst hn0
  clear hn
  by_cases h2 : x.temp = temp
  case neg =>
    rw [show takenE x temp = 14 by unfold takenE; rw [if_neg (by omega), if_pos h2], if_neg (by decide)]
    have q2 : (x.temp != temp) = true := by rw [bne_iff_ne]; exact h2
    clear h1 h2
    go_enter Try.func48, Try.ntmps48
    go_upto_region 1 with fail
    rw [← HW2.out.1, ← HW2.out.2]
    go_wp2_with (first
      | (refine wpList_load_row rfl 37 (.tmp 3) rfl q rfl 37 _ (0, 0) _ (HBX.out w2 (Kept.refl _ _)).1 Try.underlying37 rfl HIX.out ?_)
      | fail)
    refine (HCH.out w2 (Kept.refl _ _)).mono ?_
    rintro e w3 ⟨rfl, k3⟩
    have HK3 := Lib.hid k3
    clear k3
    have p3 := HP3.out w3 HK3.out
    go_wp2_with (first
      | (refine wpList_store_row rfl 37 (.tmp 6) _ rfl (q + 1) #[.string { data := #[] }, .slice none 0 0, .int .i64 0, .int .i64 0, .bool false, .int .i64 0, .int .i64 0, .int .i64 0, .int .u64 0, .int .u64 0, .int .i64 0, .int .u64 0, .int .i64 0, .slice none 0 0, .int .i64 0, .slice none 0 0, .int .i64 0] rfl rfl 37 _ (HBX.out w3 HK3.out).2 point_info rfl (pntC_one' (x := zeroPt) (ones_slices _ _ _ _ _ _ _ _ _)) ?_)
      | fail)
    refine bodyPost_ret (results_ct Try.results48 _ _ (q + 1) 37 _ (0, 0) _ rfl (setRow_heap _ _ _ _ _ _ (HBX.out w3 HK3.out).2) Try.underlying37 rfl point_info) rfl ?_
    exact ⟨_, rfl, GotP.zero ((HK02.out.trans HK3.out).newer (setRow_keptW _ _ _) (fun i e => by have := HGE.out; omega))⟩
  have hte : takenE x temp = if x.flags = 0 then 0 else 3 := by unfold takenE; rw [if_neg (by omega), if_neg (by omega)]; by_cases h : x.flags = 0 <;> simp [h]
  have hpe : (if takenE x temp = 0 then x else zeroPt) = if x.flags = 0 then x else zeroPt := by rw [hte]; by_cases h : x.flags = 0 <;> simp [h]
  have hce : ((takenE x temp : Nat) : Int) = if x.flags = 0 then 0 else 3 := by rw [hte]; split <;> rfl
  rw [hpe, hce]
  obtain ⟨E, hE⟩ : ∃ E : Int, E = if x.flags = 0 then 0 else 3 := ⟨_, rfl⟩
  obtain ⟨X, hX⟩ : ∃ X : Pnt, X = if x.flags = 0 then x else zeroPt := ⟨_, rfl⟩
  rw [← hE, ← hX] at HFT
  rw [← hE, ← hX]
  have q2 : (x.temp != temp) = false := by rw [h2]; simp
  clear h1 h2 hte hpe hce hE hX
  go_enter Try.func48, Try.ntmps48
  go_upto_region 1 with fail
  rw [← HW2.out.1, ← HW2.out.2]
  go_wp2_with (first
    | (refine wpList_load_row rfl 37 (.tmp 3) rfl q rfl 37 _ (0, 0) _ (HBX.out w2 (Kept.refl _ _)).1 Try.underlying37 rfl HIX.out ?_)
    | fail)
  refine (HCH.out w2 (Kept.refl _ _)).mono ?_
  rintro e w3 ⟨rfl, k3⟩
  have HK3 := Lib.hid k3
  clear k3
  have p3 := HP3.out w3 HK3.out
  go_wp2_with (first
    | (refine wpList_load_row rfl 37 (.tmp 3) rfl q rfl 37 _ (0, 0) _ (HBX.out w3 HK3.out).1 Try.underlying37 rfl HIX.out ?_)
    | fail)
  refine (HFT.out w3 HK3.out).mono ?_
  rintro e w4 ⟨v, rfl, g4⟩
  have HG4 := Lib.hid g4
  obtain ⟨CY, rfl, hi, hs, h1⟩ := g4.cells
  have HIY := Lib.hid hi
  have HSY := Lib.hid (And.intro hs h1)
  have HK4 := Lib.hid (HK3.out.trans g4.kept)
  clear g4 hi hs h1
  go_wp2_with (first
    | (refine wpList_store_row rfl 37 (.tmp 6) _ rfl (q + 1) CY rfl rfl 37 _ (HBX.out w4 HK4.out).2 HIY.out (by rw [HSY.out.1]; rfl) HSY.out.2 ?_)
    | fail)
  refine bodyPost_ret (results_ct Try.results48 _ _ (q + 1) 37 _ (0, 0) _ rfl (setRow_heap _ _ _ _ _ _ (HBX.out w4 HK4.out).2) Try.underlying37 rfl HIY.out) rfl ?_
  exact ⟨_, rfl, (HG4.out.down HK3.out).row (q := q + 1) HK02.out (by have := (Array.getElem?_eq_some_iff.1 (HBX.out w2 (Kept.refl _ _)).2).1; omega) (by have := HGE.out; omega) CY⟩
end Go.Proofs.Ytiiibhdohlpodaa
