/- Texts put together: what the theorem stands on. -/
import Derived.Test.YtiiibhdohlpodaaZz5
import Derived.Test.YtiiibhdohlpodaaZz6
import Derived.Test.YtiiibhdohlpodaaZz7
import Derived.Test.YtiiibhdohlpodaaZz9
import Derived.Deep.MidRow

namespace Go.Proofs.Ytiiibhdohlpodaa
open Go.RowKit
/-- Whether both sides have at most so many buckets, as a test. -/
def fitQ (h : HistV) (most : Int) (b : Nat) : Bool := decide (((dWidth h.po h.pl.length b : Nat) : Int) ≤ most) && decide (((dWidth h.no h.nl.length b : Nat) : Int) ≤ most)
theorem fitQ_iff (h : HistV) (most : Int) (b : Nat) : fitQ h most b = true ↔ fits h most b := by unfold fitQ fits; simp
def fitK (h : HistV) (most : Int) : Nat → Nat → HistV × Nat
  | 0, _ => (zeroH, 4)
  | f + 1, b => if fitQ h most b = true then (downH h b, 0) else fitK h most f (b + 1)
/-- A histogram as coarse as it must be; why it doesn't fit. -/
def fitG (h : HistV) (most : Int) : HistV × Nat := if h.err ≠ 0 then (zeroH, h.err) else fitK h most (h.sc + 11).toNat 0
theorem fitK_of {h : HistV} {most : Int} (he : h.err = 0) (f : Nat) : ∀ b : Nat, (b : Int) + f = h.sc + 11 → (∀ a, a < b → ¬ fits h most a) → FitOf h most (fitK h most f b).1 (fitK h most f b).2 := by
  induction f with
  | zero => intro b hb hn; exact .inr (.inr ⟨he, fun a ha => hn a (by omega), rfl, rfl⟩)
  | succ f ih =>
    intro b hb hn
    rw [fitK]
    by_cases hq : fitQ h most b = true
    · rw [if_pos hq]
      exact .inr (.inl ⟨he, b, by omega, (fitQ_iff _ _ _).1 hq, hn, rfl, rfl⟩)
    · rw [if_neg hq]
      refine ih (b + 1) (by omega) (fun a ha => ?_)
      by_cases e : a = b
      · subst e; exact fun c => hq ((fitQ_iff _ _ _).2 c)
      · exact hn a (by omega)
theorem fitG_of (h : HistV) (most : Int) : FitOf h most (fitG h most).1 (fitG h most).2 := by
  unfold fitG
  by_cases he : h.err = 0
  · rw [if_neg (by omega)]
    have := (err_light he).1
    exact fitK_of he _ 0 (by omega) (fun a ha => by omega)
  · rw [if_pos he]
    exact .inl ⟨he, rfl, rfl⟩
/-- What holds of a histogram that was fitted. -/
theorem fitG_right {h : HistV} {most : Int} (hok : h.ok) (h0 : (fitG h most).2 = 0) : h.err = 0 ∧ ∃ b : Nat, (b : Int) ≤ h.sc + 10 ∧ (fitG h most).1 = downH h b ∧ (fitG h most).1.err = 0 ∧ (fitG h most).1.ok ∧ fitsB (fitG h most).1 most = true := by
  rcases fitG_of h most with ⟨a, e, _⟩ | ⟨a, b, hb, f, _, r, _⟩ | ⟨_, _, _, e⟩
  · omega
  · have hd : downE h b = 0 := downE_mk a (by omega) hb
    have hr : downR h b = downH h b := by rw [downR_ok hd]; rfl
    refine ⟨a, b, hb, r, by rw [r]; exact downH_err h b a hb, by rw [r, ← hr]; exact downR_ok' h b hok, ?_⟩
    rw [r]
    unfold fits at f
    unfold fitsB downH
    simp only [downL_length, Bool.and_eq_true, decide_eq_true_eq]
    exact f
  · omega
/-- A point that is taken, with its fitted histogram; why it isn't. -/
def takenF (x : Pnt) (temp most : Int) : Pnt × Nat :=
  if takenE x temp ≠ 0 then (zeroPt, takenE x temp) else
  if x.kind = 4 then (if (fitG x.h most).2 = 0 then ({ x with h := (fitG x.h most).1 }, 0) else (zeroPt, (fitG x.h most).2)) else (x, 0)
def fin4 (a b c d : Int) : Bool := finI a && finI b && finI c && finI d
/-- A point with a state's value and its own together. -/
def moreA (s : StV) (x : Pnt) (most : Int) : Pnt :=
  if x.kind = 1 then moreW s x else
  if x.kind = 4 then (if (togH s.h x.h most).2 = true then { x with h := (togH s.h x.h most).1, start := s.start } else { x with flags := 16 }) else
  if (finI (addI s.re x.re) && finI (addI s.im x.im)) || !fin4 s.re s.im x.re x.im then { x with re := addI s.re x.re, im := addI s.im x.im, start := s.start } else { x with flags := 16 }
/-- What comes of a point that fits. -/
def outA (s : StV) (x : Pnt) (most : Int) : Pnt :=
  if s.some = false then { x with temp := 1, flags := 1 } else if s.time < x.start then { x with temp := 1, flags := 8 } else moreA s { x with temp := 1 } most
/-- Why a point makes nothing of a state. -/
def stepA (s : StV) (x : Pnt) (most : Int) : Int := if (takenF x 2 most).2 ≠ 0 then ((takenF x 2 most).2 : Int) else if s.some = true then lateC s (takenF x 2 most).1 else 0
def nextAP (s : StV) (x : Pnt) (most : Int) : Pnt := if stepA s x most = 0 then outA s (takenF x 2 most).1 most else zeroPt
def nextAS (s : StV) (x : Pnt) (most : Int) : StV := if stepA s x most = 0 then stOf (outA s (takenF x 2 most).1 most) else zeroSt
theorem takenF_zero {x : Pnt} {t most : Int} (h : (takenF x t most).2 = 0) : takenE x t = 0 ∧ ((x.kind = 4 ∧ (fitG x.h most).2 = 0 ∧ (takenF x t most).1 = { x with h := (fitG x.h most).1 }) ∨ (x.kind ≠ 4 ∧ (takenF x t most).1 = x)) := by
  unfold takenF at h ⊢
  by_cases h1 : takenE x t = 0
  · rw [if_neg (by omega)] at h ⊢
    refine ⟨h1, ?_⟩
    by_cases hk : x.kind = 4
    · rw [if_pos hk] at h ⊢
      by_cases h2 : (fitG x.h most).2 = 0
      · rw [if_pos h2] at h ⊢
        exact .inl ⟨hk, h2, rfl⟩
      · rw [if_neg h2] at h
        exact absurd h h2
    · rw [if_neg hk]
      exact .inr ⟨hk, rfl⟩
  · rw [if_pos h1] at h
    exact absurd h h1
/-- The points that are taken, each with what comes of it. -/
def playA (most : Int) : StV → List Pnt → List (Pnt × Pnt)
  | _, [] => []
  | s, x :: l => if stepA s x most = 0 then (x, nextAP s x most) :: playA most (nextAS s x most) l else playA most s l
/-- The state behind points. -/
def stAA (most : Int) : StV → List Pnt → StV
  | s, [] => s
  | s, x :: l => if stepA s x most = 0 then stAA most (nextAS s x most) l else stAA most s l
theorem playA_snoc (most : Int) (l : List Pnt) : ∀ (s : StV) (x : Pnt), playA most s (l ++ [x]) = playA most s l ++ (if stepA (stAA most s l) x most = 0 then [(x, nextAP (stAA most s l) x most)] else []) ∧ stAA most s (l ++ [x]) = if stepA (stAA most s l) x most = 0 then nextAS (stAA most s l) x most else stAA most s l := by
  induction l with
  | nil => intro s x; by_cases h : stepA s x most = 0 <;> simp [playA, stAA, h]
  | cons y l ih =>
    intro s x
    rw [List.cons_append, playA, playA, stAA, stAA]
    by_cases h : stepA s y most = 0
    · simp only [if_pos h, List.cons_append]
      exact ⟨by rw [(ih (nextAS s y most) x).1], (ih (nextAS s y most) x).2⟩
    · simp only [if_neg h]
      exact ih s x
theorem playA_len (most : Int) (l : List Pnt) : ∀ s : StV, (playA most s l).length ≤ l.length := by
  induction l with
  | nil => intro s; exact Nat.le_refl _
  | cons y l ih =>
    intro s
    rw [playA]
    split
    · have := ih (nextAS s y most); rw [List.length_cons, List.length_cons]; omega
    · have := ih s; rw [List.length_cons]; omega
theorem playA_at (most : Int) (l : List Pnt) : ∀ (s : StV) (i : Nat) (p : Pnt × Pnt), (playA most s l)[i]? = some p →
    p.1 ∈ l ∧ ∃ s', stepA s' p.1 most = 0 ∧ p.2 = nextAP s' p.1 most ∧ (i = 0 → s' = s) ∧ (∀ j, i = j + 1 → ∃ q, (playA most s l)[j]? = some q ∧ s' = stOf q.2) := by
  induction l with
  | nil => intro s i p h; simp [playA] at h
  | cons y l ih =>
    intro s i p h
    rw [playA] at h ⊢
    by_cases hy : stepA s y most = 0
    · rw [if_pos hy] at h ⊢
      cases i with
      | zero =>
        simp at h
        subst h
        exact ⟨List.mem_cons_self, s, hy, rfl, fun _ => rfl, fun j e => by omega⟩
      | succ i =>
        rw [List.getElem?_cons_succ] at h
        obtain ⟨hm, s', h1, h2, h3, h4⟩ := ih (nextAS s y most) i p h
        refine ⟨List.mem_cons_of_mem _ hm, s', h1, h2, fun e => by omega, fun j e => ?_⟩
        obtain rfl : j = i := by omega
        cases j with
        | zero => exact ⟨(y, nextAP s y most), rfl, by rw [h3 rfl]; unfold nextAS nextAP; rw [if_pos hy, if_pos hy]⟩
        | succ j =>
          obtain ⟨q, hq, he⟩ := h4 j rfl
          exact ⟨q, by rw [List.getElem?_cons_succ]; exact hq, he⟩
    · rw [if_neg hy] at h ⊢
      obtain ⟨hm, r⟩ := ih s i p h
      exact ⟨List.mem_cons_of_mem _ hm, r⟩
end Go.Proofs.Ytiiibhdohlpodaa

namespace Go.Proofs.Ytiiibhdohlpodaa
open Go.RowKit
attribute [local go_sem ↓] Go.wp_at_zero Go.wp_at_succ
/-- A whole value is loaded out of a row. -/
theorem wpList_load_part {P : Program} {ops : Array Oper} {rest : List Oper} {op : Oper} {a : Act} {w : World} {Q : Exit → Act → World → Prop} (hgd : op.guard = none) (ty : TypeId) (x : Operand) (ho : op.op = .load ty x)
    (b o : Nat) (hx : a.eval x = .pointer (some ⟨b, o, none⟩)) (cs : Array Value) (d : TypeDesc) (hc : w.rangeAt b o cs.toList)
    (hu : P.underlying ty = some d) (hd : d.isRow = true) (hi : (P.info? ty).map (·.size) = some cs.size)
    (h : wpList P ops Q rest (a.put op.dst (.agg cs)) w) : wpList P ops Q (op :: rest) a w :=
  wpList_load_mid hgd ty x ho b o hx cs.toList d hc hu hd (by simpa using hi) (by simpa using h)
theorem exec_load_part {P : Program} {o : Oper} {a : Act} {w : World} (ty : TypeId) (x : Operand) (ho : o.op = .load ty x)
    (b f : Nat) (hx : a.eval x = .pointer (some ⟨b, f, none⟩)) (cs : Array Value) (d : TypeDesc) (hc : w.rangeAt b f cs.toList)
    (hu : P.underlying ty = some d) (hd : d.isRow = true) (hi : (P.info? ty).map (·.size) = some cs.size) : (execOp a.eval o).run P w = .ok (.value (.agg cs)) w := by
  have := run_loadVar_mid (P := P) w b f ty cs.toList d hc hu hd (by simpa using hi)
  unfold execOp
  simp only [ho, hx, Instr.loadAt, Instr.sureAddr, Sem.run_bind, Sem.run_pure, Result.andThen_ok, this]
theorem PtsIn.on {W w : World} {ao : Option Addr} {L : List PtV} (h : PtsIn W ao L) (k : Kept (fun _ => False) W w) : PtsIn w ao L := ⟨h.at_.kept k, fun p hp => ⟨(h.each p hp).1.on k, (h.each p hp).2⟩⟩
theorem range_of {w : World} {g o i : Nat} {p : PtV} (h : ∀ j u, (cellsPt p)[j]? = some u → w.cell? ⟨g, o + i * 17 + j, none⟩ = some u) : w.rangeAt g (o + i * 17) p.cs.toList := fun j v hv => h j v hv
theorem pt_size (p : PtV) : (Try.prog.info? 37).map (·.size) = some p.cs.size := point_info
/-- Points that are few and light. -/
def someB (L : List PtV) : Bool := decide (L.length ≤ 20) && L.all fun p => lightP p.x
theorem all_take_succ {α : Type} {f : α → Bool} {L : List α} {i : Nat} {x : α} (h : L[i]? = some x) : (L.take (i + 1)).all f = ((L.take i).all f && f x) := by
  rw [List.take_add_one, h]; simp
theorem all_false {α : Type} {f : α → Bool} {L : List α} {i : Nat} {x : α} (h : L[i]? = some x) (hf : f x = false) : L.all f = false := by
  rw [List.all_eq_false]
  exact ⟨x, List.mem_of_getElem? h, by rw [hf]; decide⟩
theorem zeroHV_ok : zeroHV.ok := ⟨by unfold zeroHV; decide, by unfold zeroHV; decide, by unfold zeroHV; decide, fun x hx => (by cases hx), by unfold zeroHV; decide, fun x hx => (by cases hx)⟩
end Go.Proofs.Ytiiibhdohlpodaa

namespace Go.Proofs.Ytiiibhdohlpodaa
open Go.RowKit
attribute [local go_sem ↓] Go.wp_at_zero Go.wp_at_succ
/-- A part of a whole box. -/
theorem range_part {w : World} {q : Nat} {cs : Array Value} {T : TypeId} (h : w.heap[q]? = some (.cells cs T (0, 0))) (o : Nat) (l : List Value) (hl : ∀ (j : Nat) v, l[j]? = some v → cs[o + j]? = some v) : w.rangeAt q o l :=
  fun j v hv => cell_rowZ (o + j) v h (hl j v hv)
theorem pnt_hist (x : Pnt) (av pv nv : Value) : ∀ (j : Nat) v, (histA x.h pv nv).toList[j]? = some v → (pntC x av pv nv)[10 + j]? = some v
  | 0, _, h => h
  | 1, _, h => h
  | 2, _, h => h
  | 3, _, h => h
  | 4, _, h => h
  | 5, _, h => h
  | _ + 6, _, h => by simp [histA] at h
theorem st_hist (s : StV) (pv nv : Value) : ∀ (j : Nat) v, (histA s.h pv nv).toList[j]? = some v → (stC s pv nv)[6 + j]? = some v
  | 0, _, h => h
  | 1, _, h => h
  | 2, _, h => h
  | 3, _, h => h
  | 4, _, h => h
  | 5, _, h => h
  | _ + 6, _, h => by simp [histA] at h
set_option maxHeartbeats 8000000 in
set_option maxRecDepth 100000 in
theorem fitted4_any (x : Pnt) (aa pa na : Option Addr) (ac pc nc : Nat) (most : Int) (w : World) (ha : PntAt w x aa ac (.slice pa x.h.pl.length pc) (.slice na x.h.nl.length nc)) (hli : x.light) (hok : x.h.ok) (hk : x.kind = 4) :
    Calls Try.prog 70 #[pntV x (.slice aa x.L.length ac) (.slice pa x.h.pl.length pc) (.slice na x.h.nl.length nc), .int .i64 most] w fun e w' => ∃ v, e = .returned (.tuple #[v, .int .i64 (if x.flags = 0 then (((fitG x.h most).2 : Nat) : Int) else 3)]) ∧ GotP w w' (if x.flags = 0 then (if (fitG x.h most).2 = 0 then { x with h := (fitG x.h most).1 } else zeroPt) else zeroPt) v := by
  obtain ⟨q, hq⟩ : ∃ q, q = w.heap.size := ⟨_, rfl⟩
  obtain ⟨CX, hCX⟩ : ∃ a, a = pntC x (.slice aa x.L.length ac) (.slice pa x.h.pl.length pc) (.slice na x.h.nl.length nc) := ⟨_, rfl⟩
  have hvx : pntV x (.slice aa x.L.length ac) (.slice pa x.h.pl.length pc) (.slice na x.h.nl.length nc) = .agg CX := by rw [hCX]; rfl
  have HIX : Hid ((Try.prog.info? 37).map (·.size) = some CX.size) := Lib.hid (point_info.trans (by rw [hCX]; rfl))
  obtain ⟨w2, hw2⟩ : ∃ w2, w2 = (w.alloc (.cells CX 37)).alloc (.cells #[.string { data := #[] }, .slice none 0 0, .int .i64 0, .int .i64 0, .bool false, .int .i64 0, .int .i64 0, .int .i64 0, .int .u64 0, .int .u64 0, .int .i64 0, .int .u64 0, .int .i64 0, .slice none 0 0, .int .i64 0, .slice none 0 0, .int .i64 0] 37) := ⟨_, rfl⟩
  have k2 : Kept (fun _ => False) w w2 := by rw [hw2]; exact ((Kept.refl _ _).alloc _).alloc _
  have hb1 : w2.heap[q]? = some (.cells CX 37 (0, 0)) := by rw [hw2, hq]; exact ((Kept.refl (fun _ => False) _).alloc _).same (heap_alloc_new w _) (fun x => x)
  have hb2 : w2.heap[q + 1]? = some (.cells #[.string { data := #[] }, .slice none 0 0, .int .i64 0, .int .i64 0, .bool false, .int .i64 0, .int .i64 0, .int .i64 0, .int .u64 0, .int .u64 0, .int .i64 0, .int .u64 0, .int .i64 0, .slice none 0 0, .int .i64 0, .slice none 0 0, .int .i64 0] 37 (0, 0)) := by rw [hw2, hq]; exact box_second2 w _ _
  have HBX : Hid (∀ w', Kept (fun _ => False) w2 w' → w'.heap[q]? = some (.cells CX 37 (0, 0)) ∧ w'.heap[q + 1]? = some (.cells #[.string { data := #[] }, .slice none 0 0, .int .i64 0, .int .i64 0, .bool false, .int .i64 0, .int .i64 0, .int .i64 0, .int .u64 0, .int .u64 0, .int .i64 0, .int .u64 0, .int .i64 0, .slice none 0 0, .int .i64 0, .slice none 0 0, .int .i64 0] 37 (0, 0))) := Lib.hid (fun w' k => ⟨k.same hb1 (fun x => x), k.same hb2 (fun x => x)⟩)
  have HX := Lib.hid (fun w' (k : Kept (fun _ => False) w2 w') => ha.on (k2.trans k))
  have HCX := Lib.hid hCX
  have HW2 := Lib.hid (And.intro hw2 hq)
  have HK02 := Lib.hid k2
  have HGE : Hid (w.heap.size ≤ q) := Lib.hid (by omega)
  have HCL := Lib.hid (fun w' (k : Kept (fun _ => False) w2 w') => pclone_got x aa pa na ac pc nc w' (HX.out w' k) hli)
  have HFI := Lib.hid (fun w' (k : Kept (fun _ => False) w2 w') => histFit_any x.h most _ _ w' (HX.out w' k).hist hok (by have := hli.pl; omega) (by have := hli.nl; omega))
  rw [hvx] at HCL ⊢
  have HPH : Hid (∀ w', Kept (fun _ => False) w2 w' → w'.rangeAt q 10 (histA x.h (.slice pa x.h.pl.length pc) (.slice na x.h.nl.length nc)).toList) := Lib.hid (fun w' k => range_part (HBX.out w' k).1 10 _ (by rw [HCX.out]; exact pnt_hist x _ _ _))
  have p16 : w2.cell? ⟨q, 16, none⟩ = some (.int .i64 x.flags) := cell_rowZ 16 _ hb1 (by rw [hCX]; rfl)
  have HP2 : Hid (∀ w', Kept (fun _ => False) w2 w' → w'.cell? ⟨q, 2, none⟩ = some (.int .i64 4)) := Lib.hid (fun w' k => cell_rowZ 2 _ (HBX.out w' k).1 (by rw [HCX.out, ← hk]; rfl))
  obtain ⟨HA, hHA⟩ : ∃ a, a = histA x.h (.slice pa x.h.pl.length pc) (.slice na x.h.nl.length nc) := ⟨_, rfl⟩
  rw [histV_A, ← hHA] at HFI
  rw [← hHA] at HPH
  have HIH : Hid ((Try.prog.info? 30).map (·.size) = some HA.size) := Lib.hid (by rw [hHA]; exact hist_info)
  clear hw2 hq k2 hb1 hb2 hvx hCX ha hli hHA hok hk
  have HFG := Lib.hid (fitG_of x.h most)
  obtain ⟨R, hR⟩ : ∃ r, r = (fitG x.h most).1 := ⟨_, rfl⟩
  obtain ⟨E, hE⟩ : ∃ r, r = (fitG x.h most).2 := ⟨_, rfl⟩
  rw [← hR, ← hE] at HFG
  rw [← hR, ← hE]
  clear hR hE
  by_cases h1 : x.flags = 0
  case neg =>
    rw [if_neg h1, if_neg h1]
    have q1 : (x.flags != 0) = true := by simpa using h1
    clear h1
    go_enter Try.func70, Try.ntmps70
    go_upto_region 1 with fail
    rw [← HW2.out.1, ← HW2.out.2]
    go_wp2_with (first
      | (refine wpList_store_row rfl 37 (.tmp 4) _ rfl (q + 1) #[.string { data := #[] }, .slice none 0 0, .int .i64 0, .int .i64 0, .bool false, .int .i64 0, .int .i64 0, .int .i64 0, .int .u64 0, .int .u64 0, .int .i64 0, .int .u64 0, .int .i64 0, .slice none 0 0, .int .i64 0, .slice none 0 0, .int .i64 0] rfl rfl 37 _ (HBX.out w2 (Kept.refl _ _)).2 point_info rfl (pntC_one' (x := zeroPt) (ones_slices _ _ _ _ _ _ _ _ _)) ?_)
      | fail)
    refine bodyPost_ret (results_ct Try.results70 _ _ (q + 1) 37 _ (0, 0) _ rfl (setRow_heap _ _ _ _ _ _ (HBX.out w2 (Kept.refl _ _)).2) Try.underlying37 rfl point_info) rfl ?_
    exact ⟨_, rfl, GotP.zero (HK02.out.newer (setRow_keptW _ _ _) (fun i e => by have := HGE.out; omega))⟩
  rw [if_pos h1, if_pos h1]
  rw [h1] at p16
  clear h1
  by_cases hE : E = 0
  case neg =>
    rw [if_neg hE]
    obtain ⟨n, hn⟩ : ∃ n : Int, n = ((E : Nat) : Int) := ⟨_, rfl⟩
    have HNE : Hid (n = ((E : Nat) : Int)) := Lib.hid hn
    have q1 : (n != 0) = true := by rw [bne_iff_ne]; omega
    clear hn hE
    go_enter Try.func70, Try.ntmps70
    go_upto_region 1 with fail
    rw [← HW2.out.1, ← HW2.out.2]
    go_upto_region 3 with fail
    go_wp2_with (first
      | (refine wpList_load_row rfl 37 (.tmp 2) rfl q rfl 37 _ (0, 0) _ (HBX.out w2 (Kept.refl _ _)).1 Try.underlying37 rfl HIX.out ?_)
      | fail)
    refine (HCL.out w2 (Kept.refl _ _)).mono ?_
    rintro e w3 ⟨v, rfl, g3⟩
    have HG3 := Lib.hid g3
    obtain ⟨a1, a2, a3, c1, c2, c3, rfl, n3⟩ := g3
    unfold pntV
    obtain ⟨CY, hCY⟩ : ∃ a, a = pntC x (.slice a1 x.L.length c1) (.slice a2 x.h.pl.length c2) (.slice a3 x.h.nl.length c3) := ⟨_, rfl⟩
    rw [← hCY]
    have HCY := Lib.hid hCY
    have HIY : Hid ((Try.prog.info? 37).map (·.size) = some CY.size) := Lib.hid (point_info.trans (by rw [hCY]; rfl))
    have HSY : Hid (CY.size = 17 ∧ CY.all (·.oneCell') = true) := Lib.hid (by rw [hCY]; exact ⟨rfl, pntC_one' (ones_slices _ _ _ _ _ _ _ _ _)⟩)
    have HN3 := Lib.hid n3
    have HK3 := Lib.hid n3.at_.kept
    clear n3 hCY HG3
    obtain ⟨g6, hg6⟩ : ∃ g, g = w3.heap.size := ⟨_, rfl⟩
    have HG6 := Lib.hid hg6
    clear hg6
    go_upto_region 4 with (refine wpList_store_box rfl 37 (.tmp 6) _ rfl w3 _ CY 37 rfl rfl rfl HIY.out (by rw [HSY.out.1]; rfl) HSY.out.2 ?_; intro w4 hb4 k4; have HB4 : Hid (w4.heap[g6]? = some (.cells CY 37 (0, 0))) := Lib.hid (by rw [HG6.out]; exact hb4); have HK34 := Lib.hid k4; have HK4 := Lib.hid (HK3.out.trans k4); clear hb4 k4)
    rw [← HG6.out]
    have p2 := HP2.out w4 HK4.out
    go_upto_region 6 with fail
    clear p2
    go_wp2_with (first
      | (refine wpList_load_part rfl 30 (.tmp 20) rfl q 10 rfl HA _ (HPH.out w4 HK4.out) Try.underlying30 rfl HIH.out ?_)
      | fail)
    refine (HFI.out w4 HK4.out).mono ?_
    rintro e w5 ⟨R', E', hf, pv, nv, rfl, m1, m2, _⟩
    obtain ⟨rfl, rfl⟩ := FitOf.uniq HFG.out hf
    clear hf
    obtain ⟨d2, d3, e2, e3, rfl, rfl, hn⟩ := HN.of m1 m2
    clear m1 m2
    have HHN := Lib.hid hn
    have HK45 := Lib.hid hn.mp.kept
    clear hn
    have HK5 := Lib.hid (HK4.out.trans HK45.out)
    rw [histV_A]
    obtain ⟨RA, hRA⟩ : ∃ a, a = histA R (.slice d2 R.pl.length e2) (.slice d3 R.nl.length e3) := ⟨_, rfl⟩
    rw [← hRA]
    have HRA := Lib.hid hRA
    have HIR : Hid ((Try.prog.info? 30).map (·.size) = some RA.size ∧ RA.size = 6 ∧ RA.all (·.oneCell') = true) := Lib.hid (by rw [hRA]; exact ⟨hist_info, rfl, histC_one ⟨rfl, rfl⟩⟩)
    clear hRA
    obtain ⟨g7, hg7⟩ : ∃ g, g = w5.heap.size := ⟨_, rfl⟩
    have HG7 := Lib.hid hg7
    clear hg7
    go_upto_region 7 with (refine wpList_store_box rfl 30 (.tmp 7) _ rfl w5 _ RA 30 rfl rfl rfl HIR.out.1 (by rw [HIR.out.2.1]; rfl) HIR.out.2.2 ?_; intro w6 hb6 k6; have HB6 : Hid (w6.heap[g7]? = some (.cells RA 30 (0, 0))) := Lib.hid (by rw [HG7.out]; exact hb6); have HK56 := Lib.hid k6; have HK6 := Lib.hid (HK5.out.trans k6); clear hb6 k6)
    rw [← HG7.out]
    rw [← HNE.out]
    go_wp2_with (first
      | (refine wpList_store_row rfl 37 (.tmp 4) _ rfl (q + 1) #[.string { data := #[] }, .slice none 0 0, .int .i64 0, .int .i64 0, .bool false, .int .i64 0, .int .i64 0, .int .i64 0, .int .u64 0, .int .u64 0, .int .i64 0, .int .u64 0, .int .i64 0, .slice none 0 0, .int .i64 0, .slice none 0 0, .int .i64 0] rfl rfl 37 _ (HBX.out w6 HK6.out).2 point_info rfl (pntC_one' (x := zeroPt) (ones_slices _ _ _ _ _ _ _ _ _)) ?_)
      | fail)
    refine bodyPost_ret (results_ct Try.results70 _ _ (q + 1) 37 _ (0, 0) _ rfl (setRow_heap _ _ _ _ _ _ (HBX.out w6 HK6.out).2) Try.underlying37 rfl point_info) rfl ?_
    exact ⟨_, by rw [← HNE.out]; rfl, GotP.zero ((HK02.out.trans HK6.out).newer (setRow_keptW _ _ _) (fun i e => by have := HGE.out; omega))⟩
  subst hE
  rw [if_pos rfl]
  go_enter Try.func70, Try.ntmps70
  go_upto_region 1 with fail
  rw [← HW2.out.1, ← HW2.out.2]
  go_upto_region 3 with fail
  go_wp2_with (first
    | (refine wpList_load_row rfl 37 (.tmp 2) rfl q rfl 37 _ (0, 0) _ (HBX.out w2 (Kept.refl _ _)).1 Try.underlying37 rfl HIX.out ?_)
    | fail)
  refine (HCL.out w2 (Kept.refl _ _)).mono ?_
  rintro e w3 ⟨v, rfl, g3⟩
  have HG3 := Lib.hid g3
  obtain ⟨a1, a2, a3, c1, c2, c3, rfl, n3⟩ := g3
  unfold pntV
  obtain ⟨CY, hCY⟩ : ∃ a, a = pntC x (.slice a1 x.L.length c1) (.slice a2 x.h.pl.length c2) (.slice a3 x.h.nl.length c3) := ⟨_, rfl⟩
  rw [← hCY]
  have HCY := Lib.hid hCY
  have HIY : Hid ((Try.prog.info? 37).map (·.size) = some CY.size) := Lib.hid (point_info.trans (by rw [hCY]; rfl))
  have HSY : Hid (CY.size = 17 ∧ CY.all (·.oneCell') = true) := Lib.hid (by rw [hCY]; exact ⟨rfl, pntC_one' (ones_slices _ _ _ _ _ _ _ _ _)⟩)
  have HN3 := Lib.hid n3
  have HK3 := Lib.hid n3.at_.kept
  clear n3 hCY HG3
  obtain ⟨g6, hg6⟩ : ∃ g, g = w3.heap.size := ⟨_, rfl⟩
  have HG6 := Lib.hid hg6
  clear hg6
  go_upto_region 4 with (refine wpList_store_box rfl 37 (.tmp 6) _ rfl w3 _ CY 37 rfl rfl rfl HIY.out (by rw [HSY.out.1]; rfl) HSY.out.2 ?_; intro w4 hb4 k4; have HB4 : Hid (w4.heap[g6]? = some (.cells CY 37 (0, 0))) := Lib.hid (by rw [HG6.out]; exact hb4); have HK34 := Lib.hid k4; have HK4 := Lib.hid (HK3.out.trans k4); clear hb4 k4)
  rw [← HG6.out]
  have p2 := HP2.out w4 HK4.out
  go_upto_region 6 with fail
  clear p2
  go_wp2_with (first
    | (refine wpList_load_part rfl 30 (.tmp 20) rfl q 10 rfl HA _ (HPH.out w4 HK4.out) Try.underlying30 rfl HIH.out ?_)
    | fail)
  refine (HFI.out w4 HK4.out).mono ?_
  rintro e w5 ⟨R', E', hf, pv, nv, rfl, m1, m2, _⟩
  obtain ⟨rfl, rfl⟩ := FitOf.uniq HFG.out hf
  clear hf
  obtain ⟨d2, d3, e2, e3, rfl, rfl, hn⟩ := HN.of m1 m2
  clear m1 m2
  have HHN := Lib.hid hn
  have HK45 := Lib.hid hn.mp.kept
  clear hn
  have HK5 := Lib.hid (HK4.out.trans HK45.out)
  rw [histV_A]
  obtain ⟨RA, hRA⟩ : ∃ a, a = histA R (.slice d2 R.pl.length e2) (.slice d3 R.nl.length e3) := ⟨_, rfl⟩
  rw [← hRA]
  have HRA := Lib.hid hRA
  have HIR : Hid ((Try.prog.info? 30).map (·.size) = some RA.size ∧ RA.size = 6 ∧ RA.all (·.oneCell') = true) := Lib.hid (by rw [hRA]; exact ⟨hist_info, rfl, histC_one ⟨rfl, rfl⟩⟩)
  clear hRA
  obtain ⟨g7, hg7⟩ : ∃ g, g = w5.heap.size := ⟨_, rfl⟩
  have HG7 := Lib.hid hg7
  clear hg7
  go_upto_region 7 with (refine wpList_store_box rfl 30 (.tmp 7) _ rfl w5 _ RA 30 rfl rfl rfl HIR.out.1 (by rw [HIR.out.2.1]; rfl) HIR.out.2.2 ?_; intro w6 hb6 k6; have HB6 : Hid (w6.heap[g7]? = some (.cells RA 30 (0, 0))) := Lib.hid (by rw [HG7.out]; exact hb6); have HK56 := Lib.hid k6; have HK6 := Lib.hid (HK5.out.trans k6); clear hb6 k6)
  rw [← HG7.out]
  have HB46 : Hid (w6.heap[g6]? = some (.cells CY 37 (0, 0))) := Lib.hid ((HK45.out.trans HK56.out).same HB4.out (fun x => x))
  go_upto_region 10 with (first | (refine wpList_load_row rfl 30 (.tmp 7) rfl g7 rfl 30 _ (0, 0) _ HB6.out Try.underlying30 rfl HIR.out.1 ?_) | (refine wpList_store_mid rfl 30 (.tmp 31) _ rfl g6 10 RA rfl rfl (by rw [HIR.out.2.1]; exact box_there HB46.out 10 6 (by rw [HSY.out.1]; decide)) HIR.out.1 HIR.out.2.2 ?_))
  obtain ⟨w7, hw7⟩ : ∃ w', w' = w6.setCells g6 10 RA.toList := ⟨_, rfl⟩
  rw [← hw7]
  have h7 := setCells6 HB46.out 10 (.int .i64 R.sc) (.int .u64 (R.ze : Int)) (.int .i64 R.po) (.slice d2 R.pl.length e2) (.int .i64 R.no) (.slice d3 R.nl.length e3)
  rw [show [Value.int .i64 R.sc, .int .u64 (R.ze : Int), .int .i64 R.po, .slice d2 R.pl.length e2, .int .i64 R.no, .slice d3 R.nl.length e3] = RA.toList by rw [HRA.out]; rfl, ← hw7] at h7
  obtain ⟨CZ, hCZ⟩ : ∃ a, a = pntC { x with h := R } (.slice a1 x.L.length c1) (.slice d2 R.pl.length e2) (.slice d3 R.nl.length e3) := ⟨_, rfl⟩
  have HZ7 : Hid (w7.heap[g6]? = some (.cells CZ 37 (0, 0))) := Lib.hid (by rw [h7.1, hCZ, HCY.out]; rfl)
  have HK67 := Lib.hid h7.2
  have HIZ : Hid ((Try.prog.info? 37).map (·.size) = some CZ.size ∧ CZ.size = 17 ∧ CZ.all (·.oneCell') = true) := Lib.hid (by rw [hCZ]; exact ⟨point_info, rfl, pntC_one' (ones_slices _ _ _ _ _ _ _ _ _)⟩)
  have HCZ := Lib.hid hCZ
  have HL6 : Hid (w2.heap.size ≤ g6 ∧ q + 1 < w2.heap.size) := Lib.hid ⟨by have := HG6.out; have := HK3.out.size; omega, (Array.getElem?_eq_some_iff.1 (HBX.out w2 (Kept.refl _ _)).2).1⟩
  have HBQ : Hid (w7.heap[q + 1]? = some (.cells #[.string { data := #[] }, .slice none 0 0, .int .i64 0, .int .i64 0, .bool false, .int .i64 0, .int .i64 0, .int .i64 0, .int .u64 0, .int .u64 0, .int .i64 0, .int .u64 0, .int .i64 0, .slice none 0 0, .int .i64 0, .slice none 0 0, .int .i64 0] 37 (0, 0))) := Lib.hid (HK67.out.same (HBX.out w6 HK6.out).2 (by have := HL6.out; omega))
  clear hw7 h7 hCZ
  go_wp2_with (first
    | (refine wpList_load_row rfl 37 (.tmp 6) rfl g6 rfl 37 _ (0, 0) _ HZ7.out Try.underlying37 rfl HIZ.out.1 ?_)
    | (refine wpList_store_row rfl 37 (.tmp 4) _ rfl (q + 1) CZ rfl rfl 37 _ HBQ.out HIZ.out.1 (by rw [HIZ.out.2.1]; rfl) HIZ.out.2.2 ?_)
    | fail)
  refine bodyPost_ret (results_ct Try.results70 _ _ (q + 1) 37 _ (0, 0) _ rfl (setRow_heap _ _ _ _ _ _ HBQ.out) Try.underlying37 rfl HIZ.out.1) rfl ?_
  have kk : Kept (fun k => k = q + 1) w7 (w7.setRow (q + 1) CZ) := setRow_keptW _ _ _
  have hnew : NewP w2 w6 { x with h := R } a1 d2 d3 c1 e2 e3 := ⟨HN3.out.at_.on ((HK4.out.trans HK45.out).trans HK56.out |> fun _ => (by exact (HK34.out.trans HK45.out).trans HK56.out)), (HHN.out.mp.on HK56.out).down HK4.out, (HHN.out.mn.on HK56.out).down HK4.out⟩
  have n7 := hnew.set HB46.out (by decide) (by decide) HL6.out.1 HK67.out
  have n8 := (n7.down HK02.out).set HBQ.out (by decide) (by decide) (by have := HGE.out; omega) kk
  exact ⟨_, rfl, a1, d2, d3, c1, e2, e3, by rw [HCZ.out]; rfl, n8⟩
/-- What Fitted answers of any point. -/
def fitPE (x : Pnt) (most : Int) : Pnt × Nat := if x.flags = 0 then (if x.kind = 4 then (if (fitG x.h most).2 = 0 then ({ x with h := (fitG x.h most).1 }, 0) else (zeroPt, (fitG x.h most).2)) else (x, 0)) else (zeroPt, 3)
theorem fittedF_any (x : Pnt) (aa pa na : Option Addr) (ac pc nc : Nat) (most : Int) (w : World) (ha : PntAt w x aa ac (.slice pa x.h.pl.length pc) (.slice na x.h.nl.length nc)) (hli : x.light) (hok : x.h.ok) :
    Calls Try.prog 70 #[pntV x (.slice aa x.L.length ac) (.slice pa x.h.pl.length pc) (.slice na x.h.nl.length nc), .int .i64 most] w fun e w' => ∃ v, e = .returned (.tuple #[v, .int .i64 (((fitPE x most).2 : Nat) : Int)]) ∧ GotP w w' (fitPE x most).1 v := by
  by_cases hk : x.kind = 4
  · have h := fitted4_any x aa pa na ac pc nc most w ha hli hok hk
    have e1 : (if x.flags = 0 then (((fitG x.h most).2 : Nat) : Int) else 3) = (((fitPE x most).2 : Nat) : Int) := by
      unfold fitPE; rw [if_pos hk]; split
      · split
        · rename_i h; rw [h]
        · rfl
      · rfl
    have e2 : (if x.flags = 0 then (if (fitG x.h most).2 = 0 then { x with h := (fitG x.h most).1 } else zeroPt) else zeroPt) = (fitPE x most).1 := by
      unfold fitPE; rw [if_pos hk]; split
      · split <;> rfl
      · rfl
    rw [e1, e2] at h
    exact h
  · have h := fitted_any x aa pa na ac pc nc most w ha hli hk
    have e1 : (if x.flags = 0 then (0 : Int) else 3) = (((fitPE x most).2 : Nat) : Int) := by unfold fitPE; rw [if_neg hk]; split <;> rfl
    have e2 : (if x.flags = 0 then x else zeroPt) = (fitPE x most).1 := by unfold fitPE; rw [if_neg hk]; split <;> rfl
    rw [e1, e2] at h
    exact h
theorem takenF_cases (x : Pnt) (temp most : Int) : (chk x ≠ 0 ∧ takenF x temp most = (zeroPt, chk x)) ∨ (chk x = 0 ∧ x.temp ≠ temp ∧ takenF x temp most = (zeroPt, 14)) ∨ (chk x = 0 ∧ x.temp = temp ∧ takenF x temp most = fitPE x most) := by
  unfold takenF takenE fitPE
  by_cases h1 : chk x = 0
  · by_cases h2 : x.temp = temp
    · exact .inr (.inr ⟨h1, h2, by by_cases h3 : x.flags = 0 <;> simp [h1, h2, h3]⟩)
    · exact .inr (.inl ⟨h1, h2, by simp [h1, h2]⟩)
  · exact .inl ⟨h1, by simp [h1]⟩
set_option maxHeartbeats 4000000 in
set_option maxRecDepth 100000 in
theorem takenA_any (x : Pnt) (aa pa na : Option Addr) (ac pc nc : Nat) (temp most : Int) (w : World) (ha : PntAt w x aa ac (.slice pa x.h.pl.length pc) (.slice na x.h.nl.length nc)) (hok : x.ok) (hli : x.light) :
    Calls Try.prog 48 #[pntV x (.slice aa x.L.length ac) (.slice pa x.h.pl.length pc) (.slice na x.h.nl.length nc), .int .i64 temp, .int .i64 most] w fun e w' => ∃ v, e = .returned (.tuple #[v, .int .i64 (((takenF x temp most).2 : Nat) : Int)]) ∧ GotP w w' (takenF x temp most).1 v := by
  obtain ⟨q, hq⟩ : ∃ q, q = w.heap.size := ⟨_, rfl⟩
  obtain ⟨CX, hCX⟩ : ∃ a, a = pntC x (.slice aa x.L.length ac) (.slice pa x.h.pl.length pc) (.slice na x.h.nl.length nc) := ⟨_, rfl⟩
  have hvx : pntV x (.slice aa x.L.length ac) (.slice pa x.h.pl.length pc) (.slice na x.h.nl.length nc) = .agg CX := by rw [hCX]; rfl
  have HIX : Hid ((Try.prog.info? 37).map (·.size) = some CX.size) := Lib.hid (point_info.trans (by rw [hCX]; rfl))
  obtain ⟨w2, hw2⟩ : ∃ w2, w2 = (w.alloc (.cells CX 37)).alloc (.cells #[.string { data := #[] }, .slice none 0 0, .int .i64 0, .int .i64 0, .bool false, .int .i64 0, .int .i64 0, .int .i64 0, .int .u64 0, .int .u64 0, .int .i64 0, .int .u64 0, .int .i64 0, .slice none 0 0, .int .i64 0, .slice none 0 0, .int .i64 0] 37) := ⟨_, rfl⟩
  have k2 : Kept (fun _ => False) w w2 := by rw [hw2]; exact ((Kept.refl _ _).alloc _).alloc _
  have hb1 : w2.heap[q]? = some (.cells CX 37 (0, 0)) := by rw [hw2, hq]; exact ((Kept.refl (fun _ => False) _).alloc _).same (heap_alloc_new w _) (fun x => x)
  have hb2 : w2.heap[q + 1]? = some (.cells #[.string { data := #[] }, .slice none 0 0, .int .i64 0, .int .i64 0, .bool false, .int .i64 0, .int .i64 0, .int .i64 0, .int .u64 0, .int .u64 0, .int .i64 0, .int .u64 0, .int .i64 0, .slice none 0 0, .int .i64 0, .slice none 0 0, .int .i64 0] 37 (0, 0)) := by rw [hw2, hq]; exact box_second2 w _ _
  have HBX : Hid (∀ w', Kept (fun _ => False) w2 w' → w'.heap[q]? = some (.cells CX 37 (0, 0)) ∧ w'.heap[q + 1]? = some (.cells #[.string { data := #[] }, .slice none 0 0, .int .i64 0, .int .i64 0, .bool false, .int .i64 0, .int .i64 0, .int .i64 0, .int .u64 0, .int .u64 0, .int .i64 0, .int .u64 0, .int .i64 0, .slice none 0 0, .int .i64 0, .slice none 0 0, .int .i64 0] 37 (0, 0))) := Lib.hid (fun w' k => ⟨k.same hb1 (fun x => x), k.same hb2 (fun x => x)⟩)
  have HX := Lib.hid (fun w' (k : Kept (fun _ => False) w2 w') => ha.on (k2.trans k))
  have HCX := Lib.hid hCX
  have HW2 := Lib.hid (And.intro hw2 hq)
  have HK02 := Lib.hid k2
  have HGE : Hid (w.heap.size ≤ q) := Lib.hid (by omega)
  have HCH := Lib.hid (fun w' (k : Kept (fun _ => False) w2 w') => pCheck_any x aa pa na ac pc nc w' (HX.out w' k) hok hli)
  have HFT := Lib.hid (fun w' (k : Kept (fun _ => False) w2 w') => fittedF_any x aa pa na ac pc nc most w' (HX.out w' k) hli hok.h)
  rw [hvx] at HCH HFT ⊢
  have HP3 : Hid (∀ w', Kept (fun _ => False) w2 w' → w'.cell? ⟨q, 3, none⟩ = some (.int .i64 x.temp)) := Lib.hid (fun w' k => cell_rowZ 3 _ (HBX.out w' k).1 (by rw [HCX.out]; rfl))
  obtain ⟨n, hn⟩ : ∃ n : Int, n = ((chk x : Nat) : Int) := ⟨_, rfl⟩
  rw [← hn] at HCH
  clear hw2 hq k2 hb1 hb2 hvx hCX ha hli hok
  rcases takenF_cases x temp most with ⟨h1, hte⟩ | ⟨h1, h2, hte⟩ | ⟨h1, h2, hte⟩
  · rw [hte]
    dsimp only
    rw [← hn]
    have q1 : (n != 0) = true := by rw [bne_iff_ne]; omega
    clear h1 hn hte
    go_enter Try.func48, Try.ntmps48
    go_upto_region 1 with fail
    rw [← HW2.out.1, ← HW2.out.2]
    go_wp2_with (first
      | (refine wpList_load_row rfl 37 (.tmp 3) rfl q rfl 37 _ (0, 0) _ (HBX.out w2 (Kept.refl _ _)).1 Try.underlying37 rfl HIX.out ?_)
      | fail)
    refine (HCH.out w2 (Kept.refl _ _)).mono ?_
    rintro e w3 ⟨rfl, k3⟩
    have HK3 := Lib.hid k3
    clear k3
    go_wp2_with (first
      | (refine wpList_store_row rfl 37 (.tmp 6) _ rfl (q + 1) #[.string { data := #[] }, .slice none 0 0, .int .i64 0, .int .i64 0, .bool false, .int .i64 0, .int .i64 0, .int .i64 0, .int .u64 0, .int .u64 0, .int .i64 0, .int .u64 0, .int .i64 0, .slice none 0 0, .int .i64 0, .slice none 0 0, .int .i64 0] rfl rfl 37 _ (HBX.out w3 HK3.out).2 point_info rfl (pntC_one' (x := zeroPt) (ones_slices _ _ _ _ _ _ _ _ _)) ?_)
      | fail)
    refine bodyPost_ret (results_ct Try.results48 _ _ (q + 1) 37 _ (0, 0) _ rfl (setRow_heap _ _ _ _ _ _ (HBX.out w3 HK3.out).2) Try.underlying37 rfl point_info) rfl ?_
    exact ⟨_, rfl, GotP.zero ((HK02.out.trans HK3.out).newer (setRow_keptW _ _ _) (fun i e => by have := HGE.out; omega))⟩
  · rw [hte]
    dsimp only
    have hn0 : n = 0 := by omega
    subst hn0
    have q2 : (x.temp != temp) = true := by rw [bne_iff_ne]; exact h2
    clear h1 h2 hn hte
    go_enter Try.func48, Try.ntmps48
    go_upto_region 1 with fail
    rw [← HW2.out.1, ← HW2.out.2]
    go_wp2_with (first
      | (refine wpList_load_row rfl 37 (.tmp 3) rfl q rfl 37 _ (0, 0) _ (HBX.out w2 (Kept.refl _ _)).1 Try.underlying37 rfl HIX.out ?_)
      | fail)
    refine (HCH.out w2 (Kept.refl _ _)).mono ?_
    rintro e w3 ⟨rfl, k3⟩
    have HK3 := Lib.hid k3
    clear k3
    have p3 := HP3.out w3 HK3.out
    go_wp2_with (first
      | (refine wpList_store_row rfl 37 (.tmp 6) _ rfl (q + 1) #[.string { data := #[] }, .slice none 0 0, .int .i64 0, .int .i64 0, .bool false, .int .i64 0, .int .i64 0, .int .i64 0, .int .u64 0, .int .u64 0, .int .i64 0, .int .u64 0, .int .i64 0, .slice none 0 0, .int .i64 0, .slice none 0 0, .int .i64 0] rfl rfl 37 _ (HBX.out w3 HK3.out).2 point_info rfl (pntC_one' (x := zeroPt) (ones_slices _ _ _ _ _ _ _ _ _)) ?_)
      | fail)
    refine bodyPost_ret (results_ct Try.results48 _ _ (q + 1) 37 _ (0, 0) _ rfl (setRow_heap _ _ _ _ _ _ (HBX.out w3 HK3.out).2) Try.underlying37 rfl point_info) rfl ?_
    exact ⟨_, rfl, GotP.zero ((HK02.out.trans HK3.out).newer (setRow_keptW _ _ _) (fun i e => by have := HGE.out; omega))⟩
  · rw [hte]
    have hn0 : n = 0 := by omega
    subst hn0
    have q2 : (x.temp != temp) = false := by rw [h2]; simp
    obtain ⟨E, hE⟩ : ∃ E : Int, E = (((fitPE x most).2 : Nat) : Int) := ⟨_, rfl⟩
    obtain ⟨X, hX⟩ : ∃ X : Pnt, X = (fitPE x most).1 := ⟨_, rfl⟩
    rw [← hE, ← hX] at HFT
    rw [← hE, ← hX]
    clear h1 h2 hn hte hE hX
    go_enter Try.func48, Try.ntmps48
    go_upto_region 1 with fail
    rw [← HW2.out.1, ← HW2.out.2]
    go_wp2_with (first
      | (refine wpList_load_row rfl 37 (.tmp 3) rfl q rfl 37 _ (0, 0) _ (HBX.out w2 (Kept.refl _ _)).1 Try.underlying37 rfl HIX.out ?_)
      | fail)
    refine (HCH.out w2 (Kept.refl _ _)).mono ?_
    rintro e w3 ⟨rfl, k3⟩
    have HK3 := Lib.hid k3
    clear k3
    have p3 := HP3.out w3 HK3.out
    go_wp2_with (first
      | (refine wpList_load_row rfl 37 (.tmp 3) rfl q rfl 37 _ (0, 0) _ (HBX.out w3 HK3.out).1 Try.underlying37 rfl HIX.out ?_)
      | fail)
    refine (HFT.out w3 HK3.out).mono ?_
    rintro e w4 ⟨v, rfl, g4⟩
    have HG4 := Lib.hid g4
    obtain ⟨CY, rfl, hi, hs, h1⟩ := g4.cells
    have HIY := Lib.hid hi
    have HSY := Lib.hid (And.intro hs h1)
    have HK4 := Lib.hid (HK3.out.trans g4.kept)
    clear g4 hi hs h1
    go_wp2_with (first
      | (refine wpList_store_row rfl 37 (.tmp 6) _ rfl (q + 1) CY rfl rfl 37 _ (HBX.out w4 HK4.out).2 HIY.out (by rw [HSY.out.1]; rfl) HSY.out.2 ?_)
      | fail)
    refine bodyPost_ret (results_ct Try.results48 _ _ (q + 1) 37 _ (0, 0) _ rfl (setRow_heap _ _ _ _ _ _ (HBX.out w4 HK4.out).2) Try.underlying37 rfl HIY.out) rfl ?_
    exact ⟨_, rfl, (HG4.out.down HK3.out).row (q := q + 1) HK02.out (by have := (Array.getElem?_eq_some_iff.1 (HBX.out w2 (Kept.refl _ _)).2).1; omega) (by have := HGE.out; omega) CY⟩
end Go.Proofs.Ytiiibhdohlpodaa

namespace Go.Proofs.Ytiiibhdohlpodaa
open Go.RowKit
attribute [local go_sem ↓] Go.wp_at_zero Go.wp_at_succ
theorem lateC_any (s : StV) (sp sn : Value) (x : Pnt) (av pv nv : Value) (w : World) : Calls Try.prog 49 #[.agg (stC s sp sn), .agg (pntC x av pv nv)] w fun e w' => e = .returned (.int .i64 (lateC s x)) ∧ Kept (fun _ => False) w w' := by
  obtain ⟨q, hq⟩ : ∃ q, q = w.heap.size := ⟨_, rfl⟩
  obtain ⟨CS, hCS⟩ : ∃ a, a = stC s sp sn := ⟨_, rfl⟩
  obtain ⟨CX, hCX⟩ : ∃ a, a = pntC x av pv nv := ⟨_, rfl⟩
  rw [← hCS, ← hCX]
  obtain ⟨w2, hw2⟩ : ∃ w2, w2 = (w.alloc (.cells CS 32)).alloc (.cells CX 37) := ⟨_, rfl⟩
  have k2 : Kept (fun _ => False) w w2 := by rw [hw2]; exact ((Kept.refl _ _).alloc _).alloc _
  have hb1 : w2.heap[q]? = some (.cells CS 32 (0, 0)) := by rw [hw2, hq]; exact ((Kept.refl (fun _ => False) _).alloc _).same (heap_alloc_new w _) (fun x => x)
  have hb2 : w2.heap[q + 1]? = some (.cells CX 37 (0, 0)) := by rw [hw2, hq]; exact box_second2 w _ _
  have s2 : w2.cell? ⟨q, 2, none⟩ = some (.int .i64 s.time) := cell_rowZ 2 _ hb1 (by rw [hCS]; rfl)
  have p5 : w2.cell? ⟨q + 1, 5, none⟩ = some (.int .i64 x.start) := cell_rowZ 5 _ hb2 (by rw [hCX]; rfl)
  have p6 : w2.cell? ⟨q + 1, 6, none⟩ = some (.int .i64 x.time) := cell_rowZ 6 _ hb2 (by rw [hCX]; rfl)
  have HK2 := Lib.hid k2
  have HW2 := Lib.hid (And.intro hw2 hq)
  clear hCS hCX k2 hb1 hb2 hw2 hq
  unfold lateC
  by_cases h1 : x.time ≤ s.time
  · rw [if_pos h1]
    have q1 : decide (x.time ≤ s.time) = true := decide_eq_true (h1)
    clear h1
    go_enter Try.func49, Try.ntmps49
    go_upto_region 1 with fail
    rw [← HW2.out.1, ← HW2.out.2]
    go_wp2
    go_ret
    exact ⟨rfl, HK2.out⟩
  rw [if_neg h1]
  have q1 : decide (x.time ≤ s.time) = false := decide_eq_false (h1)
  by_cases h2 : x.start < s.time
  · rw [if_pos h2]
    have q2 : decide (x.start < s.time) = true := decide_eq_true (h2)
    clear h1 h2
    go_enter Try.func49, Try.ntmps49
    go_upto_region 1 with fail
    rw [← HW2.out.1, ← HW2.out.2]
    go_wp2
    go_ret
    exact ⟨rfl, HK2.out⟩
  · rw [if_neg h2]
    have q2 : decide (x.start < s.time) = false := decide_eq_false (h2)
    clear h1 h2
    go_enter Try.func49, Try.ntmps49
    go_upto_region 1 with fail
    rw [← HW2.out.1, ← HW2.out.2]
    go_wp2
    go_ret
    exact ⟨rfl, HK2.out⟩
set_option maxHeartbeats 4000000 in
set_option maxRecDepth 100000 in
theorem moreC_any (s : StV) (sp sn : Value) (x : Pnt) (av pv nv : Value) (w : World) (most : Int) (hv : Ones av pv nv) (hk : x.kind = 1) : Calls Try.prog 50 #[.agg (stC s sp sn), .agg (pntC x av pv nv), .int .i64 most] w fun e w' => e = .returned (.agg (pntC (moreW s x) av pv nv)) ∧ Kept (fun _ => False) w w' := by
  have HAV := Lib.hid hv
  obtain ⟨q, hq⟩ : ∃ q, q = w.heap.size := ⟨_, rfl⟩
  obtain ⟨CS, hCS⟩ : ∃ a, a = stC s sp sn := ⟨_, rfl⟩
  obtain ⟨CX, hCX⟩ : ∃ a, a = pntC x av pv nv := ⟨_, rfl⟩
  rw [← hCS, ← hCX]
  obtain ⟨w2, hw2⟩ : ∃ w2, w2 = ((w.alloc (.cells CS 32)).alloc (.cells CX 37)).alloc (.cells #[.string { data := #[] }, .slice none 0 0, .int .i64 0, .int .i64 0, .bool false, .int .i64 0, .int .i64 0, .int .i64 0, .int .u64 0, .int .u64 0, .int .i64 0, .int .u64 0, .int .i64 0, .slice none 0 0, .int .i64 0, .slice none 0 0, .int .i64 0] 37) := ⟨_, rfl⟩
  have k2 : Kept (fun _ => False) w w2 := by rw [hw2]; exact (((Kept.refl _ _).alloc _).alloc _).alloc _
  have hb1 : w2.heap[q]? = some (.cells CS 32 (0, 0)) := by rw [hw2, hq]; exact (((Kept.refl (fun _ => False) _).alloc _).alloc _).same (heap_alloc_new w _) (fun x => x)
  have hb2 : w2.heap[q + 1]? = some (.cells CX 37 (0, 0)) := by rw [hw2, hq]; exact ((Kept.refl (fun _ => False) _).alloc _).same (box_second2 w _ _) (fun x => x)
  have hb3 : w2.heap[q + 1 + 1]? = some (.cells #[.string { data := #[] }, .slice none 0 0, .int .i64 0, .int .i64 0, .bool false, .int .i64 0, .int .i64 0, .int .i64 0, .int .u64 0, .int .u64 0, .int .i64 0, .int .u64 0, .int .i64 0, .slice none 0 0, .int .i64 0, .slice none 0 0, .int .i64 0] 37 (0, 0)) := by rw [hw2, hq]; exact heap_third w _ _ _
  have s1 : w2.cell? ⟨q, 1, none⟩ = some (.int .i64 s.start) := cell_rowZ 1 _ hb1 (by rw [hCS]; rfl)
  have s3 : w2.cell? ⟨q, 3, none⟩ = some (.int .i64 s.whole) := cell_rowZ 3 _ hb1 (by rw [hCS]; rfl)
  have p2 : w2.cell? ⟨q + 1, 2, none⟩ = some (.int .i64 x.kind) := cell_rowZ 2 _ hb2 (by rw [hCX]; rfl)
  have p7 : w2.cell? ⟨q + 1, 7, none⟩ = some (.int .i64 x.whole) := cell_rowZ 7 _ hb2 (by rw [hCX]; rfl)
  have p16 : w2.cell? ⟨q + 1, 16, none⟩ = some (.int .i64 x.flags) := cell_rowZ 16 _ hb2 (by rw [hCX]; rfl)
  have HK2 := Lib.hid k2
  have HW2 := Lib.hid (And.intro hw2 hq)
  have HB2 := Lib.hid hb2
  have HB3 := Lib.hid hb3
  have HB1 := Lib.hid hb1
  have HCX := Lib.hid hCX
  have HCS := Lib.hid hCS
  have HIX : Hid ((Try.prog.info? 37).map (·.size) = some CX.size ∧ CX.size = 17 ∧ CX.all (·.oneCell') = true) := Lib.hid (by rw [hCX]; exact ⟨point_info, rfl, pntC_one' hv⟩)
  rw [hk] at p2
  obtain ⟨d, hd⟩ : ∃ d, d = IntKind.i64.wrap (s.whole + x.whole) := ⟨_, rfl⟩
  have hd' := hd.symm
  obtain ⟨SX, hSX⟩ : ∃ a, a = pntC { x with whole := d } av pv nv := ⟨_, rfl⟩
  have HSX := Lib.hid hSX
  have HSE : Hid (SX = CX.setIfInBounds 7 (.int .i64 d)) := Lib.hid (by rw [hSX, hCX]; rfl)
  obtain ⟨b2, hb2'⟩ : ∃ b, b = decide (d < s.whole) := ⟨_, rfl⟩
  obtain ⟨b3, hb3'⟩ : ∃ b, b = decide (x.whole < 0) := ⟨_, rfl⟩
  have q2 := hb2'.symm
  have q3 := hb3'.symm
  unfold moreW
  rw [← hd, ← hb2', ← hb3']
  clear hCS hCX k2 hb1 hb2 hb3 hw2 hq hv hk hd hSX hb2' hb3'
  obtain ⟨g8, hg8⟩ : ∃ g, g = w2.heap.size := ⟨_, rfl⟩
  have HG8 := Lib.hid hg8
  have HLT : Hid (q + 1 + 1 < g8) := Lib.hid (by rw [hg8]; exact (Array.getElem?_eq_some_iff.1 HB3.out).1)
  clear hg8
  by_cases h2 : b2 ≠ b3
  · rw [if_pos h2]
    have q4 : (b2 == b3) = false := by simpa using h2
    clear h2
    go_enter Try.func50, Try.ntmps50
    go_upto_region 1 with fail
    rw [← HW2.out.1, ← HW2.out.2]
    go_upto_region 3 with (first | (refine wpList_load_row rfl 37 (.tmp 4) rfl (q + 1) rfl 37 _ (0, 0) _ HB2.out Try.underlying37 rfl HIX.out.1 ?_) | (refine wpList_store_box rfl 37 (.tmp 8) _ rfl w2 _ CX 37 rfl rfl rfl HIX.out.1 (by rw [HIX.out.2.1]; rfl) HIX.out.2.2 ?_; intro w3 hb3 k3; have HX8 : Hid (w3.heap[g8]? = some (.cells CX 37 (0, 0))) := Lib.hid (by rw [HG8.out]; exact hb3); have HK23 := Lib.hid k3; clear hb3 k3))
    rw [← HG8.out]
    have p2' := HK23.out.cell p2 (fun x => x)
    have s3' := HK23.out.cell s3 (fun x => x)
    have p7' := HK23.out.cell p7 (fun x => x)
    have c7 : w3.cell? ⟨g8, 7, none⟩ = some (.int .i64 x.whole) := cell_rowZ 7 _ HX8.out (by rw [HCX.out]; rfl)
    have f7 := free_of_rowZ 7 HX8.out
    go_upto_region 6 with fail
    obtain ⟨w4, hw4⟩ : ∃ w', w' = w3.setCell ⟨g8, 7, none⟩ (.int .i64 d) := ⟨_, rfl⟩
    have kk : Kept (fun i => i = g8) w3 w4 := by rw [hw4]; exact (Kept.refl (fun k => k = g8) w3).setCell (p := ⟨g8, 7, none⟩) (fun _ => rfl) _
    have HX4 : Hid (w4.heap[g8]? = some (.cells SX 37 (0, 0))) := Lib.hid (by rw [hw4, HSE.out]; exact heap_setCell_same _ _ 7 _ _ _ HX8.out)
    have HF4 : Hid (w4.heap[q]? = some (.cells CS 32 (0, 0)) ∧ w4.heap[q + 1]? = some (.cells CX 37 (0, 0)) ∧ w4.heap[q + 1 + 1]? = some (.cells #[.string { data := #[] }, .slice none 0 0, .int .i64 0, .int .i64 0, .bool false, .int .i64 0, .int .i64 0, .int .i64 0, .int .u64 0, .int .u64 0, .int .i64 0, .int .u64 0, .int .i64 0, .slice none 0 0, .int .i64 0, .slice none 0 0, .int .i64 0] 37 (0, 0))) := Lib.hid (by have := HLT.out; exact ⟨kk.same (HK23.out.same HB1.out (fun x => x)) (by omega), kk.same (HK23.out.same HB2.out (fun x => x)) (by omega), kk.same (HK23.out.same HB3.out (fun x => x)) (by omega)⟩)
    have HK4 := Lib.hid ((HK2.out.trans HK23.out).newer kk (fun i e => by have := HLT.out; have := HW2.out.2; omega))
    rw [← hw4]
    clear hw4 kk p2' s3' p7' c7 f7 p2 s1 s3 p7 p16
    have s1 : w4.cell? ⟨q, 1, none⟩ = some (.int .i64 s.start) := cell_rowZ 1 _ HF4.out.1 (by rw [HCS.out]; rfl)
    have s3 : w4.cell? ⟨q, 3, none⟩ = some (.int .i64 s.whole) := cell_rowZ 3 _ HF4.out.1 (by rw [HCS.out]; rfl)
    have p7 : w4.cell? ⟨q + 1, 7, none⟩ = some (.int .i64 x.whole) := cell_rowZ 7 _ HF4.out.2.1 (by rw [HCX.out]; rfl)
    have c7 : w4.cell? ⟨g8, 7, none⟩ = some (.int .i64 d) := cell_rowZ 7 _ HX4.out (by rw [HSX.out]; rfl)
    have c16' : w4.cell? ⟨(q + 1), 16, none⟩ = some (.int .i64 x.flags) := cell_rowZ 16 _ HF4.out.2.1 (by rw [HCX.out]; rfl)
    have f16' := free_of_rowZ 16 HF4.out.2.1
    go_upto_region 15 with fail
    obtain ⟨w5, hw5⟩ : ∃ w', w' = w4.setCell ⟨(q + 1), 16, none⟩ (.int .i64 16) := ⟨_, rfl⟩
    have kk : Kept (fun i => i = (q + 1)) w4 w5 := by rw [hw5]; exact (Kept.refl (fun k => k = (q + 1)) w4).setCell (p := ⟨(q + 1), 16, none⟩) (fun _ => rfl) _
    obtain ⟨NX, hNX⟩ : ∃ a, a = pntC { x with flags := 16 } av pv nv := ⟨_, rfl⟩
    have HX5 : Hid (w5.heap[(q + 1)]? = some (.cells NX 37 (0, 0))) := Lib.hid (by rw [hw5, show NX = CX.setIfInBounds 16 (.int .i64 16) by rw [hNX, HCX.out]; rfl]; exact heap_setCell_same _ _ 16 _ _ _ HF4.out.2.1)
    have HR5 := Lib.hid (kk.same HF4.out.2.2 (by have := HLT.out; omega))
    have HK5 := Lib.hid (HK4.out.newer kk (fun i e => by have := HLT.out; have := HW2.out.2; omega))
    have HIN : Hid ((Try.prog.info? 37).map (·.size) = some NX.size) := Lib.hid (point_info.trans (by rw [hNX]; rfl))
    have HSN : Hid ((#[.string { data := #[] }, .slice none 0 0, .int .i64 0, .int .i64 0, .bool false, .int .i64 0, .int .i64 0, .int .i64 0, .int .u64 0, .int .u64 0, .int .i64 0, .int .u64 0, .int .i64 0, .slice none 0 0, .int .i64 0, .slice none 0 0, .int .i64 0] : Array Value).size = NX.size ∧ NX.all (·.oneCell') = true) := Lib.hid (by rw [hNX]; exact ⟨rfl, pntC_one' HAV.out⟩)
    have HNX := Lib.hid hNX
    rw [← hw5]
    clear hw5 kk hNX c16' f16' s1 s3 p7 c7
    go_wp2_with (first
      | (refine wpList_load_row rfl 37 (.tmp 4) rfl (q + 1) rfl 37 _ (0, 0) _ HX5.out Try.underlying37 rfl HIN.out ?_)
      | (refine wpList_store_row rfl 37 (.tmp 6) _ rfl (q + 1 + 1) NX rfl rfl 37 _ HR5.out HIN.out HSN.out.1 HSN.out.2 ?_)
      | fail)
    refine bodyPost_ret (results_cell_row Try.results50 _ _ (q + 1 + 1) 37 _ (0, 0) _ rfl (setRow_heap _ _ _ _ _ _ HR5.out) Try.underlying37 rfl HIN.out) rfl ?_
    refine ⟨by rw [HNX.out], HK5.out.newer (setRow_keptW _ _ _) (fun i e => by have := HW2.out.2; omega)⟩
  · rw [if_neg h2]
    have q4 : (b2 == b3) = true := by simpa using h2
    clear h2
    go_enter Try.func50, Try.ntmps50
    go_upto_region 1 with fail
    rw [← HW2.out.1, ← HW2.out.2]
    go_upto_region 3 with (first | (refine wpList_load_row rfl 37 (.tmp 4) rfl (q + 1) rfl 37 _ (0, 0) _ HB2.out Try.underlying37 rfl HIX.out.1 ?_) | (refine wpList_store_box rfl 37 (.tmp 8) _ rfl w2 _ CX 37 rfl rfl rfl HIX.out.1 (by rw [HIX.out.2.1]; rfl) HIX.out.2.2 ?_; intro w3 hb3 k3; have HX8 : Hid (w3.heap[g8]? = some (.cells CX 37 (0, 0))) := Lib.hid (by rw [HG8.out]; exact hb3); have HK23 := Lib.hid k3; clear hb3 k3))
    rw [← HG8.out]
    have p2' := HK23.out.cell p2 (fun x => x)
    have s3' := HK23.out.cell s3 (fun x => x)
    have p7' := HK23.out.cell p7 (fun x => x)
    have c7 : w3.cell? ⟨g8, 7, none⟩ = some (.int .i64 x.whole) := cell_rowZ 7 _ HX8.out (by rw [HCX.out]; rfl)
    have f7 := free_of_rowZ 7 HX8.out
    go_upto_region 6 with fail
    obtain ⟨w4, hw4⟩ : ∃ w', w' = w3.setCell ⟨g8, 7, none⟩ (.int .i64 d) := ⟨_, rfl⟩
    have kk : Kept (fun i => i = g8) w3 w4 := by rw [hw4]; exact (Kept.refl (fun k => k = g8) w3).setCell (p := ⟨g8, 7, none⟩) (fun _ => rfl) _
    have HX4 : Hid (w4.heap[g8]? = some (.cells SX 37 (0, 0))) := Lib.hid (by rw [hw4, HSE.out]; exact heap_setCell_same _ _ 7 _ _ _ HX8.out)
    have HF4 : Hid (w4.heap[q]? = some (.cells CS 32 (0, 0)) ∧ w4.heap[q + 1]? = some (.cells CX 37 (0, 0)) ∧ w4.heap[q + 1 + 1]? = some (.cells #[.string { data := #[] }, .slice none 0 0, .int .i64 0, .int .i64 0, .bool false, .int .i64 0, .int .i64 0, .int .i64 0, .int .u64 0, .int .u64 0, .int .i64 0, .int .u64 0, .int .i64 0, .slice none 0 0, .int .i64 0, .slice none 0 0, .int .i64 0] 37 (0, 0))) := Lib.hid (by have := HLT.out; exact ⟨kk.same (HK23.out.same HB1.out (fun x => x)) (by omega), kk.same (HK23.out.same HB2.out (fun x => x)) (by omega), kk.same (HK23.out.same HB3.out (fun x => x)) (by omega)⟩)
    have HK4 := Lib.hid ((HK2.out.trans HK23.out).newer kk (fun i e => by have := HLT.out; have := HW2.out.2; omega))
    rw [← hw4]
    clear hw4 kk p2' s3' p7' c7 f7 p2 s1 s3 p7 p16
    have s1 : w4.cell? ⟨q, 1, none⟩ = some (.int .i64 s.start) := cell_rowZ 1 _ HF4.out.1 (by rw [HCS.out]; rfl)
    have s3 : w4.cell? ⟨q, 3, none⟩ = some (.int .i64 s.whole) := cell_rowZ 3 _ HF4.out.1 (by rw [HCS.out]; rfl)
    have p7 : w4.cell? ⟨q + 1, 7, none⟩ = some (.int .i64 x.whole) := cell_rowZ 7 _ HF4.out.2.1 (by rw [HCX.out]; rfl)
    have c7 : w4.cell? ⟨g8, 7, none⟩ = some (.int .i64 d) := cell_rowZ 7 _ HX4.out (by rw [HSX.out]; rfl)
    have c5' : w4.cell? ⟨g8, 5, none⟩ = some (.int .i64 x.start) := cell_rowZ 5 _ HX4.out (by rw [HSX.out]; rfl)
    have f5' := free_of_rowZ 5 HX4.out
    go_upto_region 17 with fail
    obtain ⟨w5, hw5⟩ : ∃ w', w' = w4.setCell ⟨g8, 5, none⟩ (.int .i64 s.start) := ⟨_, rfl⟩
    have kk : Kept (fun i => i = g8) w4 w5 := by rw [hw5]; exact (Kept.refl (fun k => k = g8) w4).setCell (p := ⟨g8, 5, none⟩) (fun _ => rfl) _
    obtain ⟨NX, hNX⟩ : ∃ a, a = pntC { x with whole := d, start := s.start } av pv nv := ⟨_, rfl⟩
    have HX5 : Hid (w5.heap[g8]? = some (.cells NX 37 (0, 0))) := Lib.hid (by rw [hw5, show NX = SX.setIfInBounds 5 (.int .i64 s.start) by rw [hNX, HSX.out]; rfl]; exact heap_setCell_same _ _ 5 _ _ _ HX4.out)
    have HR5 := Lib.hid (kk.same HF4.out.2.2 (by have := HLT.out; omega))
    have HK5 := Lib.hid (HK4.out.newer kk (fun i e => by have := HLT.out; have := HW2.out.2; omega))
    have HIN : Hid ((Try.prog.info? 37).map (·.size) = some NX.size) := Lib.hid (point_info.trans (by rw [hNX]; rfl))
    have HSN : Hid ((#[.string { data := #[] }, .slice none 0 0, .int .i64 0, .int .i64 0, .bool false, .int .i64 0, .int .i64 0, .int .i64 0, .int .u64 0, .int .u64 0, .int .i64 0, .int .u64 0, .int .i64 0, .slice none 0 0, .int .i64 0, .slice none 0 0, .int .i64 0] : Array Value).size = NX.size ∧ NX.all (·.oneCell') = true) := Lib.hid (by rw [hNX]; exact ⟨rfl, pntC_one' HAV.out⟩)
    have HNX := Lib.hid hNX
    rw [← hw5]
    clear hw5 kk hNX c5' f5' s1 s3 p7 c7
    go_wp2_with (first
      | (refine wpList_load_row rfl 37 (.tmp 8) rfl g8 rfl 37 _ (0, 0) _ HX5.out Try.underlying37 rfl HIN.out ?_)
      | (refine wpList_store_row rfl 37 (.tmp 6) _ rfl (q + 1 + 1) NX rfl rfl 37 _ HR5.out HIN.out HSN.out.1 HSN.out.2 ?_)
      | fail)
    refine bodyPost_ret (results_cell_row Try.results50 _ _ (q + 1 + 1) 37 _ (0, 0) _ rfl (setRow_heap _ _ _ _ _ _ HR5.out) Try.underlying37 rfl HIN.out) rfl ?_
    refine ⟨by rw [HNX.out], HK5.out.newer (setRow_keptW _ _ _) (fun i e => by have := HW2.out.2; omega)⟩
end Go.Proofs.Ytiiibhdohlpodaa

namespace Go.Proofs.Ytiiibhdohlpodaa
open Go.RowKit
attribute [local go_sem ↓] Go.wp_at_zero Go.wp_at_succ
theorem any_take_succU {p : Int → Bool} {L : List Int} {i : Nat} {x : Int} (h : L[i]? = some x) : (L.take (i + 1)).any p = ((L.take i).any p || p x) := by
  rw [List.take_add_one, h]
  simp
/-- A row of floats' bits. -/
def URow (w : World) (ao : Option Addr) (L : List Int) : Prop := L ≠ [] → ∃ g o, ao = some ⟨g, o, none⟩ ∧ ∀ i x, L[i]? = some x → w.cell? ⟨g, o + i, none⟩ = some (.int .u64 x)
structure UTeller (W : World) (L : List Int) (f : FuncId) (caps : Array Value) (p : Int → Bool) : Prop where
  go : ∀ w x, x ∈ L → Kept (fun _ => False) W w → Calls Try.prog f (#[.int .u64 x] ++ caps) w fun e w' => e = .returned (.bool (p x)) ∧ Kept (fun _ => False) w w'
  hcf : ∀ (w : World) (args : Array Value), (callFunc f args).run Try.prog w = .ok (.enter f args) w
set_option maxHeartbeats 2000000 in
theorem indexFuncU_any (ao : Option Addr) (c : Nat) (L : List Int) (f : FuncId) (caps : Array Value) (p : Int → Bool) (w : World) (hr : URow w ao L) (hl : L.length ≤ 1000000) (T : UTeller w L f caps p) :
    Calls Try.prog 115 #[.slice ao L.length c, .func (.func f) #[] caps] w fun e w' => (∃ z : Int, e = .returned (.int .i64 z) ∧ decide (0 ≤ z) = L.any p) ∧ Kept (fun _ => False) w w' := by
  have HR := Lib.hid hr
  have HT := Lib.hid T
  have hcf := T.hcf
  have HL := Lib.hid hl
  obtain ⟨n, hn⟩ : ∃ n, n = L.length := ⟨_, rfl⟩
  have HN := Lib.hid hn
  rw [← hn]
  clear hr T hl hn
  go_enter Try.func115, Try.ntmps115
  go_wp2
  go_loopg [8] n (fun g s8 wr => ∃ i : Nat, i ≤ n ∧ g = n - i ∧ s8 = .int .i64 i ∧ (L.take i).any p = false ∧ Kept (fun _ => False) w wr)
  case atStart => exact ⟨0, Nat.zero_le _, rfl, rfl, rfl, Kept.refl _ _⟩
  case round =>
    obtain ⟨i, hin, rfl, rfl, ha, kw⟩ := hrel
    have HA := Lib.hid ha
    have HK := Lib.hid kw
    clear ha kw
    by_cases hd : i < n
    · have hdi : (i : Int) < (n : Int) := by omega
      have hi0 : (0 : Int) ≤ (i : Int) := by omega
      have HD := Lib.hid hd
      have wi : IntKind.i64.wrap ((i : Int) + 1) = ((i + 1 : Nat) : Int) := by rw [IntWalk.i64_in _ ⟨by omega, by have := HL.out; have := HN.out; omega⟩]; omega
      have hiL : i < L.length := by have := HN.out; omega
      obtain ⟨gb, ob, rfl, hrec⟩ := HR.out (by intro e; rw [e] at hiL; simp at hiL)
      have hel := HK.out.cell (hrec i L[i] (List.getElem?_eq_getElem hiL)) (fun x => x)
      have hts := any_take_succU (p := p) (List.getElem?_eq_getElem hiL)
      obtain ⟨P, hP⟩ : ∃ p, p = L[i] := ⟨_, rfl⟩
      rw [← hP] at hel hts
      have hmem : P ∈ L := by rw [hP]; exact List.getElem_mem _
      rw [HA.out, Bool.false_or] at hts
      have HGO := Lib.hid (HT.out.go wr P hmem HK.out)
      obtain ⟨b, hb⟩ : ∃ b, b = p P := ⟨_, rfl⟩
      rw [← hb] at HGO hts
      have HTS := Lib.hid hts
      have HPB := Lib.hid hb
      have HMEM := Lib.hid hmem
      clear hd hin hrec hP hiL hts hb hmem
      go_wp2_with fail
      refine HGO.out.mono ?_
      rintro e w1 ⟨rfl, k1⟩
      have HK1 := Lib.hid (HK.out.trans k1)
      clear k1
      cases b with
      | true =>
        go_wp2
        go_ret
        refine ⟨⟨i, rfl, ?_⟩, HK1.out⟩
        rw [decide_eq_true (by omega)]
        exact (List.any_eq_true.2 ⟨P, HMEM.out, HPB.out.symm⟩).symm
      | false =>
        go_wp2
        go_roundg (n - (i + 1))
        case measure => have := HD.out; omega
        case rel => exact ⟨i + 1, HD.out, rfl, rfl, HTS.out, HK1.out⟩
    · obtain rfl : n = i := by omega
      have ha := HA.out
      rw [HN.out, List.take_length] at ha
      have HA2 := Lib.hid ha
      clear hd ha
      go_wp2
      go_ret
      exact ⟨⟨-1, rfl, by rw [HA2.out]; rfl⟩, HK.out⟩
theorem containsFuncU_any (ao : Option Addr) (c : Nat) (L : List Int) (f : FuncId) (caps : Array Value) (p : Int → Bool) (w : World) (hr : URow w ao L) (hl : L.length ≤ 1000000) (T : UTeller w L f caps p) :
    Calls Try.prog 95 #[.slice ao L.length c, .func (.func f) #[] caps] w fun e w' => e = .returned (.bool (L.any p)) ∧ Kept (fun _ => False) w w' := by
  have HI := Lib.hid (indexFuncU_any ao c L f caps p w hr hl T)
  obtain ⟨n, hn⟩ : ∃ n, n = L.length := ⟨_, rfl⟩
  obtain ⟨b, hb⟩ : ∃ b, b = L.any p := ⟨_, rfl⟩
  rw [← hb] at HI ⊢
  rw [← hn] at HI ⊢
  clear hr hl T hn hb
  go_enter Try.func95, Try.ntmps95
  go_wp2_with fail
  refine HI.out.mono ?_
  rintro e w1 ⟨⟨z, rfl, hz⟩, k1⟩
  clear HI
  cases b with
  | true =>
    have hz2 : (0 : Int) ≤ z := of_decide_eq_true hz
    go_wp2
    go_ret
    exact ⟨rfl, k1⟩
  | false =>
    have hz2 : ¬ (0 : Int) ≤ z := of_decide_eq_false hz
    go_wp2
    go_ret
    exact ⟨rfl, k1⟩
theorem enterFin16 (w : World) (args : Array Value) : (callFunc 96 args).run Try.prog w = .ok (.enter 96 args) w := by
  have hb : (Try.f96).body.isSome = true := by kernel_rfl
  obtain ⟨c, hc⟩ := Option.isSome_iff_exists.1 hb
  have h1 : (Try.f96).name ≠ "runtime.NumGoroutine" := by
    have : ((Try.f96).name == "runtime.NumGoroutine") = false := by kernel_rfl
    simpa using this
  simp [callFunc, Try.func96, h1, hc]
theorem finFn16_any (a : Int) (h : 0 ≤ a ∧ a ≤ 18446744073709551615) (w : World) :
    Calls Try.prog 96 #[.int .u64 a] w fun e w' => e = .returned (.bool (!finI a)) ∧ Kept (fun _ => False) w w' := by
  have HF := Lib.hid (finite_any a h.1 h.2 w)
  go_enter Try.func96, Try.ntmps96
  go_wp2_with fail
  refine HF.out.mono ?_
  rintro e w1 ⟨rfl, rfl⟩
  go_wp2
  go_ret
  exact ⟨rfl, Kept.refl _ _⟩
theorem finAll16_any (ao : Option Addr) (c : Nat) (L : List Int) (w : World) (hr : URow w ao L) (hu : ∀ x ∈ L, 0 ≤ x ∧ x ≤ 18446744073709551615) (hl : L.length ≤ 1000000) :
    Calls Try.prog 72 #[.slice ao L.length c] w fun e w' => e = .returned (.bool (L.all finI)) ∧ Kept (fun _ => False) w w' := by
  have T : UTeller w L 96 #[] (fun x => !finI x) := ⟨fun w' x hx _ => finFn16_any x (hu x hx) w', enterFin16⟩
  have HI := Lib.hid (containsFuncU_any ao c L _ _ _ w hr hl T)
  have he : (!L.any fun x => !finI x) = L.all finI := (List.all_eq_not_any_not ..).symm
  rw [← he]
  obtain ⟨b, hb⟩ : ∃ b, b = L.any fun x => !finI x := ⟨_, rfl⟩
  rw [← hb] at HI ⊢
  obtain ⟨n, hn⟩ : ∃ n, n = L.length := ⟨_, rfl⟩
  rw [← hn] at HI ⊢
  clear hr hl T hn hu he hb
  go_enter Try.func72, Try.ntmps72
  go_wp2_with fail
  refine HI.out.mono ?_
  rintro e w1 ⟨rfl, k1⟩
  go_wp2
  go_ret
  exact ⟨rfl, k1⟩
end Go.Proofs.Ytiiibhdohlpodaa

