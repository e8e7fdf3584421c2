/- package limnographref07: last, with. -/
import Derived.Test.YtaagjedkojlbpaaDoorW14
import Derived.Test.YtaagjedkojlbpaaDoorG2
namespace Go.Proofs.YtaagjedkojlbpaaDoor
open Go.RowKit
attribute [local go_sem ↓] Go.wp_at_zero Go.wp_at_succ

theorem step_mineU {ops : Array Oper} {o : Oper} {a : Act} {K : Act → World → Prop} {Q : Exit → Act → World → Prop} {E : Prop} {w : World} (hgd : o.guard = none) (s x : Operand)
    (ho : o.op = .call { callee := .builtin .append, args := #[s, x], argTypes := #[22, 22] })
    (W : World) (v : Value) (xs : List Value) (hv : a.eval s = v) (hm : Mine W w 28 v xs)
    (y : Value) (news : List Value) (hy : a.eval x = y) (hs : Src Tryd.prog 1 22 y news.length news w)
    (hl : xs.length + news.length ≤ 1000000000000)
    (h : ∀ v' w', Mine W w' 28 v' (xs ++ news) → Kept (fun k => v.ownBlock = some k) w w' → (v'.ownBlock = v.ownBlock ∨ v'.ownBlock = some w.heap.size) → K (a.put o.dst v') w') :
    if Region.wanted o (yielded ops a.tmps) = true then Oper.wp Tryd.prog o a w K Q else E := by
  obtain ⟨iI, hiI, hzI0, hzI1, hzI2⟩ := info_parts Tryd.infoU64
  refine step_append_src w hgd s x 22 22 ho W.heap.size 28 iI (.int .u64 0) 1 8 Tryd.underlying22 hiI hzI0 hzI1 hzI2 rfl v xs.length xs hv hm.own y news.length news hy hs (by unfold maxLen; omega) (by omega) hm.kept.size ?_
  intro v' w' hown hg _ hat
  refine h v' w' ⟨by rw [List.length_append]; exact hown, hm.kept.grown hg (fun k e hlt => ?_)⟩ ((Kept.refl (fun k => v.ownBlock = some k) w).grown hg (fun k e _ => e)) hat
  have := (ownsRow_lt hm.own e).2; omega

/-- A row of the document, as a value and in its block. -/
def stV (v : Value) (f s : Nat) : Value := .agg #[v, .int .i64 (f : Int), .int .i64 (s : Int)]
theorem st_info : (Tryd.prog.info? 63).map (·.size) = some 3 := by kernel_rfl
def StBox (w : World) (q : Nat) (v : Value) (f s : Int) : Prop := w.heap[q]? = some (.cells #[v, .int .i64 f, .int .i64 s] 63 (0, 0))
theorem StBox.c {w : World} {q : Nat} {v : Value} {f s : Int} (b : StBox w q v f s) : w.cell? ⟨q, 0, none⟩ = some v ∧ w.cell? ⟨q, 1, none⟩ = some (.int .i64 f) ∧ w.cell? ⟨q, 2, none⟩ = some (.int .i64 s) := by
  have h := fun i => cell_of_row w q i _ _ _ b
  refine ⟨?_, ?_, ?_⟩ <;> (rw [h]; rfl)
theorem StBox.f {w : World} {q : Nat} {v : Value} {f s : Int} (b : StBox w q v f s) (i : Nat) : w.frozen? ⟨q, i, none⟩ = false := by
  unfold StBox at b; simp [World.frozen?, b]
theorem StBox.same {S : Nat → Prop} {w w' : World} {q : Nat} {v : Value} {f s : Int} (b : StBox w q v f s) (hk : Kept S w w') (hn : ¬ S q) : StBox w' q v f s := hk.same b hn
def set3 (w : World) (q : Nat) (a b c : Value) : World := ((w.setCell ⟨q, 0, none⟩ a).setCell ⟨q, 1, none⟩ b).setCell ⟨q, 2, none⟩ c
theorem set3_kept (w : World) (q : Nat) (a b c : Value) : Kept (fun k => k = q) w (set3 w q a b c) :=
  (((Kept.refl (fun k => k = q) w).setCell (p := ⟨q, 0, none⟩) (fun _ => rfl) a).setCell (p := ⟨q, 1, none⟩) (fun _ => rfl) b).setCell (p := ⟨q, 2, none⟩) (fun _ => rfl) c
theorem StBox.set {w : World} {q : Nat} {v : Value} {f s : Int} (b : StBox w q v f s) (v' : Value) (f' s' : Int) : StBox (set3 w q v' (.int .i64 f') (.int .i64 s')) q v' f' s' := by
  unfold StBox set3 at *; simp [World.setCell, Array.getElem?_modify, b]
theorem st_end {fn : Func} {p : Tmp} {a : Act} {P : Ending → World → Prop} {w : World} {q : Nat} {v : Value} {f s : Int} (hres : fn.results = #[.cell p 63]) (hp : a.tmps.getD p undef = .pointer (some ⟨q, 0, none⟩)) (hd : a.defers = [])
    (hg : StBox w q v f s) (h : P (.returned (.agg #[v, .int .i64 f, .int .i64 s])) w) : bodyPost Tryd.prog fn P .ret a w :=
  bodyPost_ret (v := .agg #[v, .int .i64 f, .int .i64 s]) (results_cell_row hres _ _ q 63 _ (0, 0) _ hp hg Tryd.underlying63 rfl st_info) hd h
theorem Mine.set3 {w wb wi : World} {E : TypeId} {v : Value} {xs : List Value} {q : Nat} (m : Mine wb wi E v xs) (k0 : Kept (fun _ => False) w wb) (hq : w.heap.size ≤ q) (hq2 : q < wb.heap.size) (a b c : Value) : Mine w (set3 wi q a b c) E v xs :=
  (m.down k0).keptS (set3_kept wi q a b c) (fun k e x => by have := (ownsRow_lt m.own e).2; omega) (fun k x => by omega)

set_option maxHeartbeats 4000000 in
set_option maxRecDepth 100000 in
theorem rlast_any (v : Value) (l : List Nat) (f s : Nat) (w : World) (hv : SlAt w v (xvals l)) (hl : l.length ≤ 1000000) :
    Calls Tryd.prog 63 #[stV v f s] w fun e w' => e = .returned (.int .u64 ((lastN l l.length : Nat) : Int)) ∧ Kept (fun _ => False) w w' := by
  obtain ⟨ao, ca, rfl, hvr⟩ := hv.val
  clear hvr
  rw [xvals_length] at hv ⊢
  unfold stV
  have HK := Lib.hid ((Kept.refl (fun _ => False) w).alloc (.cells #[.slice ao l.length ca, .int .i64 (f : Int), .int .i64 (s : Int)] 63))
  by_cases h0 : l.length = 0
  · have e : lastN l l.length = 0 := by unfold lastN; rw [if_pos h0]
    rw [e]
    rw [h0] at HK ⊢
    clear hv e h0
    go_enter Tryd.func63, Tryd.ntmps63
    go_wp2
    go_ret
    exact ⟨rfl, HK.out⟩
  · obtain ⟨n, hn⟩ : ∃ n, l.length = n + 1 := ⟨l.length - 1, by omega⟩
    have hv1 := hv.kept HK.out (fun _ _ x => x)
    obtain ⟨g, off, rfl, c0⟩ := hv1.elem (xvals_get (l := l) (j := n) (by omega))
    have e : lastN l l.length = l.getD n 0 := by unfold lastN; rw [if_neg h0, hn, Nat.add_sub_cancel]
    rw [e]
    obtain ⟨X, hX⟩ : ∃ X, X = l.getD n 0 := ⟨_, rfl⟩
    rw [← hX] at c0 ⊢
    rw [hn] at HK c0 ⊢
    have t1 : IntKind.i64.wrap (n : Int) = (n : Int) := IntWalk.i64_in _ ⟨by omega, by omega⟩
    have t2 : (0 : Int) ≤ (n : Int) := by omega
    have t3 : ((n : Int) + 1 == 0) = false := by simp; omega
    have t4 : (n : Int) < (n : Int) + 1 := by omega
    clear hv hv1 e h0 hX hn hl
    go_enter Tryd.func63, Tryd.ntmps63
    go_wp2
    go_ret
    exact ⟨rfl, HK.out⟩

set_option maxHeartbeats 4000000 in
set_option maxRecDepth 100000 in
theorem rwith_any (v : Value) (l : List Nat) (f s x F S : Nat) (w : World) (hv : SlAt w v (xvals l)) (hl : l.length ≤ 1000000) :
    Calls Tryd.prog 62 #[stV v f s, .int .u64 (x : Int), winV F S] w fun e w' => ∃ v', e = .returned (stV v' F S) ∧ Mine w w' 28 v' (xvals (l ++ [x])) := by
  obtain ⟨ao, ca, rfl, hvr⟩ := hv.val
  clear hvr
  rw [xvals_length] at hv ⊢
  unfold stV winV
  have k0 := (((Kept.refl (fun _ => False) w).alloc (.cells #[.slice ao l.length ca, .int .i64 (f : Int), .int .i64 (s : Int)] 63)).alloc (.cells #[.int .i64 (F : Int), .int .i64 (S : Int)] 61)).alloc (.cells #[.slice none 0 0, .int .i64 0, .int .i64 0] 63)
  obtain ⟨wb, hwb⟩ : ∃ w', w' = ((w.alloc (.cells #[.slice ao l.length ca, .int .i64 (f : Int), .int .i64 (s : Int)] 63)).alloc (.cells #[.int .i64 (F : Int), .int .i64 (S : Int)] 61)).alloc (.cells #[.slice none 0 0, .int .i64 0, .int .i64 0] 63) := ⟨_, rfl⟩
  have kk := fun (w : World) o => (Kept.refl (fun _ => False) w).alloc o
  have b1 : StBox wb w.heap.size (.slice ao l.length ca) f s := by
    rw [hwb]
    exact ((show StBox (w.alloc (.cells #[.slice ao l.length ca, .int .i64 (f : Int), .int .i64 (s : Int)] 63)) w.heap.size (.slice ao l.length ca) f s from heap_alloc_new w _).same (kk _ _) (fun x => x)).same (kk _ _) (fun x => x)
  have b2 : WinR wb (w.heap.size + 1) F S := by
    rw [hwb]
    have := WinR.new (w.alloc (.cells #[.slice ao l.length ca, .int .i64 (f : Int), .int .i64 (s : Int)] 63)) (F : Int) (S : Int)
    rw [show (w.alloc (.cells #[.slice ao l.length ca, .int .i64 (f : Int), .int .i64 (s : Int)] 63)).heap.size = w.heap.size + 1 by simp] at this
    exact WinR.same (show WinR _ (w.heap.size + 1) F S from this) (kk _ _) (fun x => x)
  have b3 : StBox wb (w.heap.size + 1 + 1) (.slice none 0 0) 0 0 := by
    rw [hwb]
    have := heap_alloc_new ((w.alloc (.cells #[.slice ao l.length ca, .int .i64 (f : Int), .int .i64 (s : Int)] 63)).alloc (.cells #[.int .i64 (F : Int), .int .i64 (S : Int)] 61)) (.cells #[.slice none 0 0, .int .i64 0, .int .i64 0] 63)
    rw [show ((w.alloc (.cells #[.slice ao l.length ca, .int .i64 (f : Int), .int .i64 (s : Int)] 63)).alloc (.cells #[.int .i64 (F : Int), .int .i64 (S : Int)] 61)).heap.size = w.heap.size + 1 + 1 by simp] at this
    exact this
  rw [← hwb] at k0
  have HBX := Lib.hid fun w' (k : Kept (fun _ => False) wb w') => And.intro (b1.same k (fun x => x)) (And.intro (b2.same k (fun x => x)) (b3.same k (fun x => x)))
  have HQ := Lib.hid (show w.heap.size + 1 + 1 < wb.heap.size from (Array.getElem?_eq_some_iff.1 b3).1)
  have HK0 := Lib.hid k0
  have HLL := Lib.hid hl
  have hsrc := (hv.kept k0 (fun _ _ x => x)).src (P := Tryd.prog) Tryd.underlying22 (by intro u hu; obtain ⟨n, _, rfl⟩ := List.mem_map.1 hu; rfl)
  have HSRC0 := Lib.hid hsrc
  have HW := Lib.hid hwb
  obtain ⟨c0, c1, c2⟩ := b1.c
  clear hv k0 hwb kk b1 b2 b3 hsrc hl
  go_enter Tryd.func62, Tryd.ntmps62
  go_wp2_with (at_builtin; rw [← HW.out]; refine wpList_mineU rfl (.tmp 8) (.tmp 10) rfl wb _ [] rfl (Mine.nil _ _) _ _ rfl HSRC0.out (by have := HLL.out; simp; omega) ?_; intro v6 w6 hm6)
  rw [List.nil_append] at hm6
  obtain ⟨a6, c6, e6⟩ := hm6.slice
  subst e6
  rw [xvals_length] at hm6 ⊢
  have HM5 := Lib.hid hm6
  clear hm6 c0 c1 c2
  go_wp2
  refine AnyBut.start (S := fun w' => w'.cell? ⟨w.heap.size + 1, 0, none⟩ = some (.int .i64 (F : Int)) ∧ w'.cell? ⟨w.heap.size + 1, 1, none⟩ = some (.int .i64 (S : Int))) (k := 6) (by kernel_rfl) ?_
  obtain ⟨wd, hwd⟩ : ∃ w', w' = w6.drew := ⟨_, rfl⟩
  have HM6 := Lib.hid (HM5.out.on (Kept.refl _ _).drew)
  rw [← hwd] at HM6 ⊢
  have HS6 := Lib.hid (HBX.out _ HM6.out.kept).2.1.c
  clear hwd
  refine AnyBut.take (i := 0) (v := ?v1) rfl (by kernel_rfl) (by kernel_rfl) (by kernel_rfl) (by kernel_rfl) (fun _ _ _ h => h) (HS6.out) (Or.inl ⟨by kernel_rfl, ?hy1⟩) ?r1
  case hy1 =>
    intro w hSw
    try dsimp only at hSw
    go_simp
    try with_reducible rfl
  try simp only [Act.put, List.getElem_toArray, List.getElem_cons_zero, List.setIfInBounds_toArray, List.set_cons_zero, List.set_cons_succ]
  refine AnyBut.take (i := 1) (v := ?v2) rfl (by kernel_rfl) (by kernel_rfl) (by kernel_rfl) (by kernel_rfl) (fun _ _ _ h => h) (HS6.out) (Or.inl ⟨by kernel_rfl, ?hy2⟩) ?r2
  case hy2 =>
    intro w hSw
    try dsimp only at hSw
    go_simp
    try with_reducible rfl
  try simp only [Act.put, List.getElem_toArray, List.getElem_cons_succ, List.getElem_cons_zero, List.setIfInBounds_toArray, List.set_cons_zero, List.set_cons_succ]
  refine AnyBut.take (i := 4) (v := ?v3) rfl (by kernel_rfl) (by kernel_rfl) (by kernel_rfl) (by kernel_rfl) (fun _ _ _ h => h) (HS6.out) (Or.inl ⟨by kernel_rfl, ?hy3⟩) ?r3
  case hy3 =>
    intro w hSw
    try dsimp only at hSw
    go_simp
    try with_reducible rfl
  try simp only [Act.put, List.getElem_toArray, List.getElem_cons_succ, List.getElem_cons_zero, List.setIfInBounds_toArray, List.set_cons_zero, List.set_cons_succ]
  refine AnyBut.one (i := 2) (by kernel_rfl) rfl (fun K hK => ?_)
  go_simp
  have HM7 := Lib.hid (HM6.out.alloc (.cells #[.int .u64 (x : Int)] 28))
  have HSRC := Lib.hid (src_oneU wd (.int .u64 (x : Int)) rfl)
  have HS7 := Lib.hid (HBX.out _ HM7.out.kept).2.1.c
  refine hK.out _ _ (HS7.out) ?_
  clear hK K
  try simp only [Act.put, List.getElem_toArray, List.getElem_cons_succ, List.getElem_cons_zero, List.setIfInBounds_toArray, List.set_cons_zero, List.set_cons_succ]
  refine AnyBut.one (i := 3) (by kernel_rfl) rfl (fun K hK => ?_)
  refine step_mineU (by rfl) (.tmp 12) (.tmp 14) (by rfl) wb _ _ (by rfl) HM7.out _ [.int .u64 (x : Int)] (by rfl) HSRC.out (by have := HLL.out; simp only [List.length_singleton, xvals_length]; omega) ?_
  intro v8 w8 hm8 hk8 _
  have HM8 := Lib.hid hm8
  have HB8 := Lib.hid (HBX.out _ hm8.kept)
  have HS8 := Lib.hid HB8.out.2.1.c
  obtain ⟨a8, c8, e8⟩ := hm8.slice
  subst e8
  clear hm8 hk8
  refine hK.out _ _ (HS8.out) ?_
  clear hK K
  try simp only [Act.put, List.getElem_toArray, List.getElem_cons_succ, List.getElem_cons_zero, List.setIfInBounds_toArray, List.set_cons_zero, List.set_cons_succ]
  refine AnyBut.take (i := 5) (v := ?v4) rfl (by kernel_rfl) (by kernel_rfl) (by kernel_rfl) (by kernel_rfl) (fun _ _ _ h => h) (HS8.out) (Or.inl ⟨by kernel_rfl, ?hy4⟩) ?r4
  case hy4 =>
    intro w hSw
    try dsimp only at hSw
    go_simp
    try with_reducible rfl
  try simp only [Act.put, List.getElem_toArray, List.getElem_cons_succ, List.getElem_cons_zero, List.setIfInBounds_toArray, List.set_cons_zero, List.set_cons_succ]
  refine AnyBut.last (by kernel_rfl) rfl (by kernel_rfl) (fun K hK => ?_)
  obtain ⟨x0, x1, x2⟩ := HB8.out.2.2.c
  have y0 := HB8.out.2.2.f 0
  have y1 := HB8.out.2.2.f 1
  have y2 := HB8.out.2.2.f 2
  go_simp
  go_wp2
  refine hK.out _ _ ?_
  clear hK K
  try simp only [Act.put, List.getElem_toArray, List.getElem_cons_succ, List.getElem_cons_zero, List.setIfInBounds_toArray, List.set_cons_zero, List.set_cons_succ]
  go_wp2
  refine st_end Tryd.results62 rfl rfl (HB8.out.2.2.set _ F S) ?_
  have hm := HM8.out.set3 HK0.out (q := w.heap.size + 1 + 1) (by omega) HQ.out (.slice a8 (xvals l ++ [Value.int .u64 (x : Int)]).length c8) (.int .i64 F) (.int .i64 S)
  rw [show (xvals l ++ [Value.int .u64 (x : Int)]).length = l.length + 1 by simp] at hm
  exact ⟨_, rfl, by rw [xvals_append]; exact hm⟩
end Go.Proofs.YtaagjedkojlbpaaDoor
