/- Texts put together: what the theorem stands on. -/
import Derived.Test.YtiiibhdohlpodaaZz5

namespace Go.Proofs.Ytiiibhdohlpodaa
open Go.RowKit
attribute [local go_sem ↓] Go.wp_at_zero Go.wp_at_succ
theorem alloc4 (w : World) (a b c d : Obj) : ((((w.alloc a).alloc b).alloc c).alloc d).heap[w.heap.size]? = some a ∧ ((((w.alloc a).alloc b).alloc c).alloc d).heap[w.heap.size + 1]? = some b ∧ ((((w.alloc a).alloc b).alloc c).alloc d).heap[w.heap.size + 1 + 1]? = some c ∧ ((((w.alloc a).alloc b).alloc c).alloc d).heap[w.heap.size + 1 + 1 + 1]? = some d := by
  have k1 := (((Kept.refl (fun _ => False) (w.alloc a)).alloc b).alloc c).alloc d
  have k2 := ((Kept.refl (fun _ => False) ((w.alloc a).alloc b)).alloc c).alloc d
  have k3 := (Kept.refl (fun _ => False) (((w.alloc a).alloc b).alloc c)).alloc d
  have h4 := heap_alloc_new (((w.alloc a).alloc b).alloc c) d
  have e : (((w.alloc a).alloc b).alloc c).heap.size = w.heap.size + 1 + 1 + 1 := by simp
  rw [e] at h4
  exact ⟨k1.same (heap_alloc_new w a) (fun x => x), k2.same (box_second2 w a b) (fun x => x), k3.same (heap_third w a b c) (fun x => x), h4⟩
theorem histC_one {h : HistV} {pv nv : Value} (hv : pv.oneCell' = true ∧ nv.oneCell' = true) : (#[.int .i64 h.sc, .int .u64 (h.ze : Int), .int .i64 h.po, pv, .int .i64 h.no, nv] : Array Value).all (·.oneCell') = true := by
  obtain ⟨h1, h2⟩ := hv
  rw [Array.all_eq_true_iff_forall_mem]
  intro u hu
  simp only [List.mem_toArray, List.mem_cons, List.not_mem_nil, or_false] at hu
  rcases hu with rfl | rfl | rfl | rfl | rfl | rfl <;> first | rfl | assumption
theorem stC_one {s : StV} {sp sn : Value} (h : sp.oneCell' = true ∧ sn.oneCell' = true) : (stC s sp sn).all (·.oneCell') = true := by
  obtain ⟨h1, h2⟩ := h
  rw [Array.all_eq_true_iff_forall_mem]
  intro u hu
  simp only [stC, List.mem_toArray, List.mem_cons, List.not_mem_nil, or_false] at hu
  rcases hu with rfl | rfl | rfl | rfl | rfl | rfl | rfl | rfl | rfl | rfl | rfl | rfl <;> first | rfl | assumption
set_option maxHeartbeats 4000000 in
set_option maxRecDepth 100000 in
theorem lessP_any (s : StV) (sp sn : Value) (x : Pnt) (av pv nv : Value) (w : World) (hv : Ones av pv nv) (hk : x.kind = 1) :
    Calls Try.prog 64 #[.agg (stC s sp sn), .agg (pntC x av pv nv)] w fun e w' => e = .returned (.tuple #[.agg (pntC (lessW s x) av pv nv), .agg #[.int .i64 x.h.sc, .int .u64 (x.h.ze : Int), .int .i64 x.h.po, pv, .int .i64 x.h.no, nv]]) ∧ Kept (fun _ => False) w w' := by
  obtain ⟨CS, hCS⟩ : ∃ a, a = stC s sp sn := ⟨_, rfl⟩
  obtain ⟨CX, hCX⟩ : ∃ a, a = pntC x av pv nv := ⟨_, rfl⟩
  have HLI := Lib.hid (fun w => lessInt_any s sp sn x av pv nv w hv)
  obtain ⟨NX, hNX⟩ : ∃ a, a = pntC (lessW s x) av pv nv := ⟨_, rfl⟩
  have HIN : Hid ((Try.prog.info? 37).map (·.size) = some NX.size) := Lib.hid (point_info.trans (by rw [hNX]; rfl))
  have HSN : Hid ((#[.string { data := #[] }, .slice none 0 0, .int .i64 0, .int .i64 0, .bool false, .int .i64 0, .int .i64 0, .int .i64 0, .int .u64 0, .int .u64 0, .int .i64 0, .int .u64 0, .int .i64 0, .slice none 0 0, .int .i64 0, .slice none 0 0, .int .i64 0] : Array Value).size = NX.size ∧ NX.all (·.oneCell') = true) := Lib.hid (by rw [hNX]; exact ⟨rfl, pntC_one' hv⟩)
  have HOH : Hid ((#[.int .i64 x.h.sc, .int .u64 (x.h.ze : Int), .int .i64 x.h.po, pv, .int .i64 x.h.no, nv] : Array Value).all (·.oneCell') = true) := Lib.hid (histC_one hv.2)
  rw [← hCS, ← hCX, ← hNX] at HLI
  rw [← hCS, ← hCX, ← hNX]
  have HIS : Hid ((Try.prog.info? 32).map (·.size) = some CS.size) := Lib.hid (state_info.trans (by rw [hCS]; rfl))
  have HIX : Hid ((Try.prog.info? 37).map (·.size) = some CX.size) := Lib.hid (point_info.trans (by rw [hCX]; rfl))
  have HCX := Lib.hid hCX
  obtain ⟨q, hq⟩ : ∃ q, q = w.heap.size := ⟨_, rfl⟩
  obtain ⟨w2, hw2⟩ : ∃ w2, w2 = (((w.alloc (.cells CS 32)).alloc (.cells CX 37)).alloc (.cells #[.string { data := #[] }, .slice none 0 0, .int .i64 0, .int .i64 0, .bool false, .int .i64 0, .int .i64 0, .int .i64 0, .int .u64 0, .int .u64 0, .int .i64 0, .int .u64 0, .int .i64 0, .slice none 0 0, .int .i64 0, .slice none 0 0, .int .i64 0] 37)).alloc (.cells #[.int .i64 0, .int .u64 0, .int .i64 0, .slice none 0 0, .int .i64 0, .slice none 0 0] 30) := ⟨_, rfl⟩
  have k2 : Kept (fun _ => False) w w2 := by rw [hw2]; exact ((((Kept.refl _ _).alloc _).alloc _).alloc _).alloc _
  have hb : w2.heap[q]? = some (.cells CS 32 (0, 0)) ∧ w2.heap[q + 1]? = some (.cells CX 37 (0, 0)) ∧ w2.heap[q + 1 + 1]? = some (.cells #[.string { data := #[] }, .slice none 0 0, .int .i64 0, .int .i64 0, .bool false, .int .i64 0, .int .i64 0, .int .i64 0, .int .u64 0, .int .u64 0, .int .i64 0, .int .u64 0, .int .i64 0, .slice none 0 0, .int .i64 0, .slice none 0 0, .int .i64 0] 37 (0, 0)) ∧ w2.heap[q + 1 + 1 + 1]? = some (.cells #[.int .i64 0, .int .u64 0, .int .i64 0, .slice none 0 0, .int .i64 0, .slice none 0 0] 30 (0, 0)) := by rw [hw2, hq]; exact alloc4 w _ _ _ _
  have HW2 := Lib.hid (And.intro hw2 hq)
  have HK02 := Lib.hid k2
  have HGE : Hid (w.heap.size ≤ q) := Lib.hid (by omega)
  have HB := Lib.hid hb
  have HSX : Hid (∀ w', Kept (fun _ => False) w2 w' → (fun w' => w'.heap[q]? = some (.cells CS 32 (0, 0)) ∧ w'.heap[q + 1]? = some (.cells CX 37 (0, 0))) w') := Lib.hid (fun w' k => ⟨k.same HB.out.1 (fun x => x), k.same HB.out.2.1 (fun x => x)⟩)
  have HBX : Hid (∀ w', Kept (fun _ => False) w2 w' → w'.heap[q]? = some (.cells CS 32 (0, 0)) ∧ w'.heap[q + 1]? = some (.cells CX 37 (0, 0)) ∧ w'.heap[q + 1 + 1]? = some (.cells #[.string { data := #[] }, .slice none 0 0, .int .i64 0, .int .i64 0, .bool false, .int .i64 0, .int .i64 0, .int .i64 0, .int .u64 0, .int .u64 0, .int .i64 0, .int .u64 0, .int .i64 0, .slice none 0 0, .int .i64 0, .slice none 0 0, .int .i64 0] 37 (0, 0)) ∧ w'.heap[q + 1 + 1 + 1]? = some (.cells #[.int .i64 0, .int .u64 0, .int .i64 0, .slice none 0 0, .int .i64 0, .slice none 0 0] 30 (0, 0))) := Lib.hid (fun w' k => ⟨k.same HB.out.1 (fun x => x), k.same HB.out.2.1 (fun x => x), k.same HB.out.2.2.1 (fun x => x), k.same HB.out.2.2.2 (fun x => x)⟩)
  have c2 : w2.cell? ⟨q + 1, 2, none⟩ = some (.int .i64 1) := cell_rowZ 2 _ hb.2.1 (by rw [hCX, ← hk]; rfl)
  clear hw2 hq k2 hb hCS hCX hNX hv hk
  have HKd : Hid (Kept (fun _ => False) w2 w2.drew) := Lib.hid (Kept.refl _ _).drew
  have HS0 := Lib.hid (HSX.out w2.drew HKd.out)
  go_enter Try.func64, Try.ntmps64
  go_upto_region 1 with fail
  rw [← HW2.out.1, ← HW2.out.2]
  go_upto_region 3 with fail
  clear c2
  refine AnyBut.start (S := fun w' => w'.heap[q]? = some (.cells CS 32 (0, 0)) ∧ w'.heap[q + 1]? = some (.cells CX 37 (0, 0))) (k := 7) (by kernel_rfl) ?_
  refine AnyBut.takeS (i := 0) (v := ?v1) rfl (by kernel_rfl) (Nat.le_of_eq (by kernel_rfl)) (by kernel_rfl) (by kernel_rfl) (fun _ _ _ h => h) (HS0.out) (Or.inl ⟨by kernel_rfl, ?hy1⟩) ?r1
  case hy1 =>
    intro w hSw
    try dsimp only at hSw
    refine exec_load_row 32 (.tmp 2) ?_ q ?_ 32 _ (0, 0) _ hSw.1 Try.underlying32 rfl HIS.out
    · rfl
    · rfl
  try simp only [Act.put, List.getElem_toArray, List.getElem_cons_zero, List.setIfInBounds_toArray, List.set_cons_zero, List.set_cons_succ]
  refine AnyBut.takeS (i := 1) (v := ?v2) rfl (by kernel_rfl) (Nat.le_of_eq (by kernel_rfl)) (by kernel_rfl) (by kernel_rfl) (fun _ _ _ h => h) (HS0.out) (Or.inl ⟨by kernel_rfl, ?hy2⟩) ?r2
  case hy2 =>
    intro w hSw
    try dsimp only at hSw
    refine exec_load_row 37 (.tmp 3) ?_ (q + 1) ?_ 37 _ (0, 0) _ hSw.2 Try.underlying37 rfl HIX.out
    · rfl
    · rfl
  try simp only [Act.put, List.getElem_toArray, List.getElem_cons_succ, List.getElem_cons_zero, List.setIfInBounds_toArray, List.set_cons_zero, List.set_cons_succ]
  refine AnyBut.takeS (i := 3) (v := ?v3) rfl (by kernel_rfl) (Nat.le_of_eq (by kernel_rfl)) (by kernel_rfl) (by kernel_rfl) (fun _ _ _ h => h) (HS0.out) (Or.inl ⟨by kernel_rfl, ?hy3⟩) ?r3
  case hy3 =>
    intro w hSw
    try dsimp only at hSw
    go_simp
    try with_reducible rfl
  try simp only [Act.put, List.getElem_toArray, List.getElem_cons_succ, List.getElem_cons_zero, List.setIfInBounds_toArray, List.set_cons_zero, List.set_cons_succ]
  refine AnyBut.takeS (i := 4) (v := ?v4) rfl (by kernel_rfl) (Nat.le_of_eq (by kernel_rfl)) (by kernel_rfl) (by kernel_rfl) (fun _ _ _ h => h) (HS0.out) (Or.inl ⟨by kernel_rfl, ?hy4⟩) ?r4
  case hy4 =>
    intro w hSw
    try dsimp only at hSw
    have c10 := cell_rowZ 10 (.int .i64 x.h.sc) hSw.2 (by rw [HCX.out]; rfl)
    have c11 := cell_rowZ 11 (.int .u64 (x.h.ze : Int)) hSw.2 (by rw [HCX.out]; rfl)
    have c12 := cell_rowZ 12 (.int .i64 x.h.po) hSw.2 (by rw [HCX.out]; rfl)
    have c13 := cell_rowZ 13 pv hSw.2 (by rw [HCX.out]; rfl)
    have c14 := cell_rowZ 14 (.int .i64 x.h.no) hSw.2 (by rw [HCX.out]; rfl)
    have c15 := cell_rowZ 15 nv hSw.2 (by rw [HCX.out]; rfl)
    go_simp
    try with_reducible rfl
  try simp only [Act.put, List.getElem_toArray, List.getElem_cons_succ, List.getElem_cons_zero, List.setIfInBounds_toArray, List.set_cons_zero, List.set_cons_succ]
  refine AnyBut.one (i := 2) (by kernel_rfl) rfl (fun K hK => ?_)
  go_simp
  go_wp2_with fail
  refine (HLI.out _).mono ?_
  rintro e w3 ⟨rfl, k3⟩
  have HK3 := Lib.hid (HKd.out.trans k3)
  have HS3 := Lib.hid (HSX.out w3 HK3.out)
  clear k3
  go_wp2
  refine hK.out _ _ (HS3.out) ?_
  clear hK K
  try simp only [Act.put, List.getElem_toArray, List.getElem_cons_succ, List.getElem_cons_zero, List.setIfInBounds_toArray, List.set_cons_zero, List.set_cons_succ]
  refine AnyBut.one (i := 5) (by kernel_rfl) rfl (fun K hK => ?_)
  refine step_store_row (by rfl) 37 (.tmp 4) (.tmp 17) (by rfl) (q + 1 + 1) NX (by rfl) (by rfl) 37 #[.string { data := #[] }, .slice none 0 0, .int .i64 0, .int .i64 0, .bool false, .int .i64 0, .int .i64 0, .int .i64 0, .int .u64 0, .int .u64 0, .int .i64 0, .int .u64 0, .int .i64 0, .slice none 0 0, .int .i64 0, .slice none 0 0, .int .i64 0] (HBX.out w3 HK3.out).2.2.1 HIN.out HSN.out.1 HSN.out.2 ?_
  have HK5 : Hid (Kept (fun i => i = q + 1 + 1) w3 (w3.setRow (q + 1 + 1) NX)) := Lib.hid (setRow_keptW _ _ _)
  have HB5 : Hid (((w3.setRow (q + 1 + 1) NX).heap[q + 1 + 1]? = some (.cells NX 37 (0, 0))) ∧ ((w3.setRow (q + 1 + 1) NX).heap[q + 1 + 1 + 1]? = some (.cells #[.int .i64 0, .int .u64 0, .int .i64 0, .slice none 0 0, .int .i64 0, .slice none 0 0] 30 (0, 0)))) := Lib.hid ⟨setRow_heap _ _ _ _ _ _ (HBX.out w3 HK3.out).2.2.1, HK5.out.same (HBX.out w3 HK3.out).2.2.2 (by omega)⟩
  have HS5 : Hid ((fun w' => w'.heap[q]? = some (.cells CS 32 (0, 0)) ∧ w'.heap[q + 1]? = some (.cells CX 37 (0, 0))) (w3.setRow (q + 1 + 1) NX)) := Lib.hid ⟨HK5.out.same HS3.out.1 (by omega), HK5.out.same HS3.out.2 (by omega)⟩
  refine hK.out _ _ (HS5.out) ?_
  clear hK K
  try simp only [Act.put, List.getElem_toArray, List.getElem_cons_succ, List.getElem_cons_zero]
  refine AnyBut.one (i := 6) (by kernel_rfl) rfl (fun K hK => ?_)
  refine step_store_row (by rfl) 30 (.tmp 5) (.tmp 19) (by rfl) (q + 1 + 1 + 1) #[.int .i64 x.h.sc, .int .u64 (x.h.ze : Int), .int .i64 x.h.po, pv, .int .i64 x.h.no, nv] (by rfl) (by rfl) 30 #[.int .i64 0, .int .u64 0, .int .i64 0, .slice none 0 0, .int .i64 0, .slice none 0 0] HB5.out.2 hist_info rfl HOH.out ?_
  have HK6 : Hid (Kept (fun i => i = q + 1 + 1 + 1) (w3.setRow (q + 1 + 1) NX) ((w3.setRow (q + 1 + 1) NX).setRow (q + 1 + 1 + 1) #[.int .i64 x.h.sc, .int .u64 (x.h.ze : Int), .int .i64 x.h.po, pv, .int .i64 x.h.no, nv])) := Lib.hid (setRow_keptW _ _ _)
  have HB6 := Lib.hid (And.intro (HK6.out.same HB5.out.1 (by omega)) (setRow_heap _ _ _ #[.int .i64 x.h.sc, .int .u64 (x.h.ze : Int), .int .i64 x.h.po, pv, .int .i64 x.h.no, nv] _ _ HB5.out.2))
  have HS6 : Hid ((fun w' => w'.heap[q]? = some (.cells CS 32 (0, 0)) ∧ w'.heap[q + 1]? = some (.cells CX 37 (0, 0))) ((w3.setRow (q + 1 + 1) NX).setRow (q + 1 + 1 + 1) #[.int .i64 x.h.sc, .int .u64 (x.h.ze : Int), .int .i64 x.h.po, pv, .int .i64 x.h.no, nv])) := Lib.hid ⟨HK6.out.same HS5.out.1 (by omega), HK6.out.same HS5.out.2 (by omega)⟩
  refine hK.out _ _ (HS6.out) ?_
  clear hK K
  try simp only [Act.put, List.getElem_toArray, List.getElem_cons_succ, List.getElem_cons_zero]
  refine AnyBut.done (by kernel_rfl) ?_
  go_wp2
  refine bodyPost_ret (results_cc Try.results64 _ _ (q + 1 + 1) (q + 1 + 1 + 1) 37 30 _ _ (0, 0) (0, 0) _ _ rfl HB6.out.1 Try.underlying37 rfl HIN.out rfl HB6.out.2 Try.underlying30 rfl hist_info) rfl ?_
  exact ⟨rfl, ((HK02.out.trans HK3.out).newer HK5.out (fun i e => by have := HGE.out; omega)).newer HK6.out (fun i e => by have := HGE.out; omega)⟩
end Go.Proofs.Ytiiibhdohlpodaa

namespace Go.Proofs.Ytiiibhdohlpodaa
open Go.RowKit
attribute [local go_sem ↓] Go.wp_at_zero Go.wp_at_succ
/-- A whole value is stored into a box. -/
theorem wpList_store_to {P : Program} {ops : Array Oper} {rest : List Oper} {o : Oper} {a : Act} {w : World} {Q : Exit → Act → World → Prop} (hgd : o.guard = none) (ty : TypeId) (x y : Operand) (ho : o.op = .store ty x y)
    (g : Nat) (cells : Array Value) (hx : a.eval x = .pointer (some ⟨g, 0, none⟩)) (hy : a.eval y = .agg cells) (t : TypeId) (old : Array Value) (hg : w.heap[g]? = some (.cells old t (0, 0)))
    (hi : (P.info? ty).map (·.size) = some cells.size) (hold : old.size = cells.size) (h1 : cells.all (·.oneCell') = true)
    (h : ∀ w', w'.heap[g]? = some (.cells cells t (0, 0)) → Kept (fun i => i = g) w w' → wpList P ops Q rest (a.put o.dst undef) w') : wpList P ops Q (o :: rest) a w :=
  wpList_store_row hgd ty x y ho g cells hx hy t old hg hi hold h1 (h _ (setRow_heap _ _ _ _ _ _ hg) (setRow_keptW _ _ _))
theorem box_there {w : World} {g : Nat} {cs : Array Value} {t : TypeId} (h : w.heap[g]? = some (.cells cs t (0, 0))) (o n : Nat) (hn : o + n ≤ cs.size) : w.there g o n := by
  intro j hj
  refine ⟨?_, free_of_rowZ _ h⟩
  rw [cell_rowZ (o + j) cs[o + j] h (Array.getElem?_eq_getElem (by omega))]
  rfl
theorem setCells6 {w : World} {g : Nat} {cs : Array Value} {t : TypeId} (h : w.heap[g]? = some (.cells cs t (0, 0))) (o : Nat) (a b c d e f : Value) :
    (w.setCells g o [a, b, c, d, e, f]).heap[g]? = some (.cells ((((((cs.setIfInBounds o a).setIfInBounds (o + 1) b).setIfInBounds (o + 1 + 1) c).setIfInBounds (o + 1 + 1 + 1) d).setIfInBounds (o + 1 + 1 + 1 + 1) e).setIfInBounds (o + 1 + 1 + 1 + 1 + 1) f) t (0, 0)) ∧ Kept (fun i => i = g) w (w.setCells g o [a, b, c, d, e, f]) := by
  simp only [World.setCells]
  exact ⟨heap_setCell_same _ _ _ _ _ _ (heap_setCell_same _ _ _ _ _ _ (heap_setCell_same _ _ _ _ _ _ (heap_setCell_same _ _ _ _ _ _ (heap_setCell_same _ _ _ _ _ _ (heap_setCell_same _ _ _ _ _ _ h))))),
    (((((((Kept.refl (fun i => i = g) w).setCell (p := ⟨g, _, none⟩) (fun _ => rfl) _).setCell (p := ⟨g, _, none⟩) (fun _ => rfl) _).setCell (p := ⟨g, _, none⟩) (fun _ => rfl) _).setCell (p := ⟨g, _, none⟩) (fun _ => rfl) _).setCell (p := ⟨g, _, none⟩) (fun _ => rfl) _).setCell (p := ⟨g, _, none⟩) (fun _ => rfl) _)⟩
theorem NewP.set {W w w' : World} {x : Pnt} {a1 a2 a3 : Option Addr} {c1 c2 c3 k : Nat} {cs : Array Value} {T : TypeId} (n : NewP W w x a1 a2 a3 c1 c2 c3) (hb : w.heap[k]? = some (.cells cs T (0, 0))) (h1 : 101 ≠ T) (h2 : 25 ≠ T) (h0 : W.heap.size ≤ k) (kk : Kept (fun i => i = k) w w') : NewP W w' x a1 a2 a3 c1 c2 c3 :=
  ⟨n.at_.keptS kk (fun _ e e2 => own_box n.at_.own hb h1 (e2 ▸ e)) (fun _ e => by rw [e]; exact h0), n.mp.keptS kk (fun _ e e2 => own_box n.mp.own hb h2 (e2 ▸ e)) (fun _ e => by rw [e]; exact h0), n.mn.keptS kk (fun _ e e2 => own_box n.mn.own hb h2 (e2 ▸ e)) (fun _ e => by rw [e]; exact h0)⟩
/-- The boxes of Next: the state that is to be, the answer. -/
structure NB (W w : World) (g10 g11 : Nat) (NS OX : Array Value) (x : Pnt) (a1 a2 a3 : Option Addr) (c1 c2 c3 : Nat) : Prop where
  k : Kept (fun _ => False) W w
  bn : w.heap[g10]? = some (.cells NS 32 (0, 0))
  bo : w.heap[g11]? = some (.cells OX 37 (0, 0))
  lt : W.heap.size ≤ g10 ∧ W.heap.size ≤ g11 ∧ g10 ≠ g11
  new : NewP W w x a1 a2 a3 c1 c2 c3
section
variable {W w w' : World} {g10 g11 : Nat} {NS OX NS' OX' : Array Value} {x : Pnt} {a1 a2 a3 : Option Addr} {c1 c2 c3 : Nat}
end
theorem lessW_parts (s : StV) (x : Pnt) : (lessW s x).L = x.L ∧ (lessW s x).h = x.h := by
  unfold lessW
  split
  · exact ⟨rfl, rfl⟩
  · split <;> exact ⟨rfl, rfl⟩
theorem GotP.parts {W w : World} {x y : Pnt} {a1 a2 a3 : Option Addr} {c1 c2 c3 : Nat} (h : NewP W w x a1 a2 a3 c1 c2 c3) (e : y.L = x.L ∧ y.h = x.h) : GotP W w y (.agg (pntC y (.slice a1 x.L.length c1) (.slice a2 x.h.pl.length c2) (.slice a3 x.h.nl.length c3))) := by
  obtain ⟨e1, e2⟩ := e
  refine ⟨a1, a2, a3, c1, c2, c3, by rw [e1, e2]; rfl, ⟨?_, ?_, ?_⟩⟩
  · rw [e1]; exact h.at_
  · rw [e2]; exact h.mp
  · rw [e2]; exact h.mn
end Go.Proofs.Ytiiibhdohlpodaa

