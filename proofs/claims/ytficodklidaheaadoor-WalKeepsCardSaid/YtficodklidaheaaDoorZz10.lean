/- Texts put together: S7, S8, WE. -/
import Derived.Test.YtficodklidaheaaDoorZz9
/- Layer 18: remove, Remove; a file's first bytes; append onto a file's bytes. -/
namespace Go.Proofs.YtficodklidaheaaDoor
open Go.RowKit
attribute [local go_sem ↓] Go.wp_at_zero Go.wp_at_succ

theorem run_field0 (a : Option Addr) (n c : Nat) (z : Int) (w : World) : (Instr.field 114 (.agg #[.slice a n c, .int .i64 z]) 0).run Tryd.prog w = .ok (.slice a n c) w := by kernel_rfl
theorem usedBox {w w' : World} {db mb : Nat} {D : DA} (h : BoxAt w db 111 (boxD mb D)) {M : List (ByteArray × PF)} {z : Int} (hz : z = (usedL M : Int)) (hw : w' = w.setCell ⟨db, 2, none⟩ (.int .i64 z)) : BoxAt w' db 111 (boxD mb { D with L := M }) := by
  have := h.set 2 (.int .i64 z)
  rw [hw]
  subst hz
  exact this
set_option maxRecDepth 100000 in
set_option maxHeartbeats 2000000 in
theorem dremove_any (base db mb : Nat) (L : List (ByteArray × Fi)) (D : DA) (s : ByteArray) (hs : s.size ≤ maxLen) (w : World) (h : DK base w db mb L D) :
    Calls Tryd.prog 98 #[.pointer (some ⟨db, 0, none⟩), .string s] w fun e w' => e = .returned (.tuple #[]) ∧ DK base w' db mb (delM L s) { D with L := delM D.L s } ∧ Kept (foot db mb L) w w' ∧ Foot w db mb L (delM L s) := by
  have c0 := h.c.1
  have c2 := h.c.2.2.1
  have f2 := h.box.fz 2
  have hl := ((h.kept ((Kept.refl (fun _ => False) w).drew) (fun _ _ x => x)).look hs).1
  have hu := usedL_del h.ok.asc.pair s
  have hcap := h.ok.capR
  have hus := h.ok.used
  obtain ⟨f, hf⟩ : ∃ f, f = lookF L s := ⟨_, rfl⟩
  have hn : szM (getM D.L s) = f.b.length := by
    rw [hf, ← h.get]
    unfold lookF
    cases getM L s <;> rfl
  rw [← hf] at hl
  rw [hn] at hu
  obtain ⟨a, c, b, z⟩ := f
  simp only at hl hu
  obtain ⟨n, hnn⟩ : ∃ n, n = b.length := ⟨_, rfl⟩
  rw [← hnn] at hl hu
  obtain ⟨u, huu⟩ : ∃ u, u = usedL D.L := ⟨_, rfl⟩
  rw [← huu] at c2 hu hus
  have hr1 : n ≤ u := by omega
  have hr2 : u ≤ 4194304 := by omega
  have kS : Kept (fun k => k = db) w (w.setCell ⟨db, 2, none⟩ (.int .i64 ((u : Int) - (n : Int)))).drew := (kept_set w db 2 _).drew
  have hm1 := h.map.kept kS (fun e => h.ne e.symm)
  obtain ⟨w3, hd, hm3, hk3⟩ := hm1.delete Tryd.underlying9 Tryd.underlying109 hs 0
  have HR := Lib.hid (show DK base w3 db mb (delM L s) { D with L := delM D.L s } ∧ Kept (foot db mb L) w w3 ∧ Foot w db mb L (delM L s) from
    h.del (removeF_ok h.ok s) rfl (by
      have := usedBox (M := delM D.L s) (z := (u : Int) - (n : Int)) h.box (by omega) rfl
      exact (this.kept ((Kept.refl (fun _ => False) _).drew) (fun x => x)).kept hk3 h.ne) hm3 ((kS.mono (fun _ _ e => .inl e)).trans (hk3.mono (fun _ _ e => .inr e))))
  have c0' : ((w.setCell ⟨db, 2, none⟩ (.int .i64 ((u : Int) - (n : Int)))).drew).cell? ⟨db, 0, none⟩ = some (.map (some mb)) := by
    have hb := (h.box.set 2 (.int .i64 ((u : Int) - (n : Int)))).kept ((Kept.refl (fun _ => False) _).drew) (fun x => x)
    exact hb.cell rfl
  have hfd := run_field0
  clear h hu hcap hus hf hn hnn huu hm1 hm3 hk3 kS
  go_enter Tryd.func98, Tryd.ntmps98
  go_upto_region 0 with fail
  go_region
  go_wp2
  go_end0
  exact ⟨rfl, HR.out⟩
set_option maxRecDepth 100000 in
set_option maxHeartbeats 2000000 in
theorem dRemove_any (base db mb : Nat) (L : List (ByteArray × Fi)) (D : DA) (s : ByteArray) (hs : s.size ≤ maxLen) (w : World) (h : DK base w db mb L D) :
    Calls Tryd.prog 97 #[.pointer (some ⟨db, 0, none⟩), .string s] w (DTo base w db mb L (removeD D s)) := by
  have HC := Lib.hid (dchangeOf_any base db mb L D s hs w h)
  have HX := Lib.hid (And.intro (fun e : (beginOf D s).2 = 0 => beginOf_zero e) (fun e : (beginOf D s).2 ≠ 0 => beginOf_ne e))
  unfold removeD
  obtain ⟨g, hg⟩ : ∃ g : PF → DA → DA × Int, g = fun _ D => ({ D with L := delM D.L s }, 0) := ⟨_, rfl⟩
  rw [← hg]
  have HG := Lib.hid hg
  obtain ⟨r, hr⟩ : ∃ r, r = beginOf D s := ⟨_, rfl⟩
  rw [← hr] at HC HX
  obtain ⟨D1, z⟩ := r
  have HS := Lib.hid hs
  clear hr hs h hg
  go_enter Tryd.func97, Tryd.ntmps97
  go_wp2_with fail
  refine HC.out.mono ?_
  rintro e w1 ⟨rfl, h1, hk1⟩
  have HD := Lib.hid (And.intro h1 hk1)
  have HM := Lib.hid (dremove_any base db mb L D1 s HS.out w1 h1)
  clear h1 hk1
  by_cases hz : z = 0
  · have q0 : (z != 0) = false := bneF hz
    have HY := Lib.hid (by
      obtain ⟨p, hp, hgp⟩ := HX.out.1 hz
      have := hgp g
      rw [HG.out] at this
      exact this)
    subst hz
    go_wp2_with fail
    refine HM.out.mono ?_
    rintro e w2 ⟨rfl, hx⟩
    have HXX := Lib.hid hx
    clear hx
    go_wp2
    go_ret
    rw [HG.out, HY.out]
    exact DTo.behind HD.out.2 ⟨_, rfl, HXX.out⟩
  · have q0 : (z != 0) = true := bneT hz
    have HY := Lib.hid (HX.out.2 hz)
    clear hz
    go_wp2
    go_ret
    rw [HY.out]
    exact BeganTo.to ⟨rfl, HD.out.1, HD.out.2⟩

theorem run_cut3 {P : Program} {t E : TypeId} {i : TypeInfo} (ht : P.underlying t = some (.slice E)) (hi : P.info? E = some i) (a : Option Addr) (len cap h : Nat) (hhi : h ≤ cap) (w : World) :
    (Instr.slice t (.slice a len cap) none (some (.int .i64 (h : Int))) (some (.int .i64 (h : Int)))).run P w = .ok (.slice a h h) w := by
  have e : (a.map fun x => x.add 0) = a := by cases a <;> simp [add_zero']
  simp [Instr.slice, run_underlying ht, Instr.sliceBounds, Instr.sliceBound, asIntOf, sizeOf, typeInfo, hi, e, hhi]
theorem run_cut3At {P : Program} {t E : TypeId} {i : TypeInfo} (ht : P.underlying t = some (.slice E)) (hi : P.info? E = some i) (a : Option Addr) (len cap h : Nat) (hhi : h ≤ cap) (w : World) :
    (Instr.sliceAt t (.slice a len cap) none (some (.int .i64 (h : Int))) (some (.int .i64 (h : Int)))).run P w = .ok (.slice a h h) w := by
  have he : P.elem t = E := by simp [Program.elem, ht]
  rw [run_sliceAt_slice w t _ _ _ _ (by rw [he]; exact ht)]
  exact run_cut3 ht hi a len cap h hhi w
theorem OwnB.cut {base : Nat} {w : World} {f : Fi} (h : OwnB base w f) {n : Nat} (hn : n ≤ f.b.length) (s : Nat) : OwnB base w ⟨f.a, n, f.b.take n, s⟩ := by
  rcases h with ⟨h1, h2, h3⟩ | ⟨g, cur, h1, h2, h3, h4, h5, h6, h7⟩
  · rw [h2] at hn
    have : n = 0 := by simpa using hn
    subst this
    exact .inl ⟨h1, by simp, rfl⟩
  · refine .inr ⟨g, cur, h1, h2, h3, by simp; omega, by simp only; omega, by simp only; omega, ?_⟩
    have e : (f.b.take n).length = n := by rw [List.length_take]; omega
    simp only [e]
    have := congrArg (List.take n) h7
    rw [List.take_take, Nat.min_eq_left hn] at this
    rw [this]
    unfold byV
    rw [List.map_take]
theorem file_info : (Tryd.prog.info? 114).map (·.size) = some 2 := by kernel_rfl
theorem file_end {fn : Func} {p : Tmp} {a : Act} {P : Ending → World → Prop} {w : World} {q : Nat} {x y : Value} (hres : fn.results = #[.cell p 114]) (hp : a.tmps.getD p undef = .pointer (some ⟨q, 0, none⟩)) (hd : a.defers = [])
    (hg : BoxAt w q 114 #[x, y]) (h : P (.returned (.agg #[x, y])) w) : bodyPost Tryd.prog fn P .ret a w :=
  bodyPost_ret (v := .agg #[x, y]) (results_cell_row hres _ _ q 114 _ (0, 0) _ hp hg Tryd.underlying114 rfl file_info) hd h
set_option maxRecDepth 100000 in
set_option maxHeartbeats 2000000 in
theorem fcut_any (a : Option Addr) (n c z h : Nat) (hh : h ≤ n) (hc : n ≤ c) (w : World) :
    Calls Tryd.prog 70 #[.agg #[.slice a n c, .int .i64 (z : Int)], .int .i64 (h : Int)] w fun e w' => e = .returned (.agg #[.slice a h h, .int .i64 ((min z h : Nat) : Int)]) ∧ Kept (fun _ => False) w w' := by
  obtain ⟨wa, hwa⟩ : ∃ wa, wa = w.alloc (.cells #[.slice a n c, .int .i64 (z : Int)] 114) := ⟨_, rfl⟩
  obtain ⟨q1, hq1⟩ : ∃ q, q = w.heap.size := ⟨_, rfl⟩
  obtain ⟨wb, hwb⟩ : ∃ wb, wb = wa.alloc (.cells #[.slice none 0 0, .int .i64 0] 114) := ⟨_, rfl⟩
  obtain ⟨q2, hq2⟩ : ∃ q, q = wa.heap.size := ⟨_, rfl⟩
  have ka : Kept (fun _ => False) w wa := by rw [hwa]; exact (Kept.refl _ _).alloc _
  have kb : Kept (fun _ => False) wa wb := by rw [hwb]; exact (Kept.refl _ _).alloc _
  have B1 : BoxAt wb q1 114 #[.slice a n c, .int .i64 (z : Int)] := (show BoxAt wa q1 _ _ by rw [hwa, hq1]; exact BoxAt.new w _ _).kept kb (fun x => x)
  have B2 : BoxAt wb q2 114 #[.slice none 0 0, .int .i64 0] := by rw [hwb, hq2]; exact BoxAt.new wa _ _
  have hq2' : q2 = q1 + 1 := by rw [hq2, hwa, hq1]; exact Array.size_push ..
  have HW := Lib.hid (show (w.alloc (.cells #[.slice a n c, .int .i64 (z : Int)] 114)).alloc (.cells #[.slice none 0 0, .int .i64 0] 114) = wb by rw [hwb, hwa])
  have HQ := Lib.hid (And.intro hq1 hq2')
  have HK := Lib.hid (ka.trans kb)
  have b10 : wb.cell? ⟨q1, 0, none⟩ = some (.slice a n c) := B1.cell rfl
  have b11 : wb.cell? ⟨q1, 1, none⟩ = some (.int .i64 (z : Int)) := B1.cell rfl
  have b20 : wb.cell? ⟨q2, 0, none⟩ = some (.slice none 0 0) := B2.cell rfl
  have b21 : wb.cell? ⟨q2, 1, none⟩ = some (.int .i64 0) := B2.cell rfl
  have g0 := B2.fz 0
  have g1 := B2.fz 1
  obtain ⟨iI, hiI, hzI0, hzI1, hzI2⟩ := info_parts Tryd.infoU8
  have hcut := fun w => run_cut3 (P := Tryd.prog) Tryd.underlying22 hiI a n c h (by omega) w
  have hcutA := fun w => run_cut3At (P := Tryd.prog) Tryd.underlying22 hiI a n c h (by omega) w
  have HB2 := Lib.hid B2
  clear hwa hwb hq1 hq2 hq2' ka kb B1 B2 hiI hzI0 hzI1 hzI2 hh hc
  go_enter Tryd.func70, Tryd.ntmps70
  go_upto_region 1 with fail
  rw [HW.out, ← HQ.out.1, ← HQ.out.2]
  go_region
  go_wp2
  refine file_end Tryd.results70 rfl rfl ((HB2.out.set 0 (.slice a h h)).set 1 (.int .i64 (min (z : Int) (h : Int)))) ?_
  have e : (min (z : Int) (h : Int)) = ((min z h : Nat) : Int) := by omega
  refine ⟨by rw [e], HK.out.step (S' := fun k => k = q2) (((kept_set _ q2 0 _).trans (kept_set _ q2 1 _)).drew) (fun k hk x => ?_)⟩
  have := HQ.out
  omega
end Go.Proofs.YtficodklidaheaaDoor
/- Layer 18: append onto a file's bytes; Append. -/
namespace Go.Proofs.YtficodklidaheaaDoor
open Go.RowKit
attribute [local go_sem ↓] Go.wp_at_zero Go.wp_at_succ

theorem OwnB.ofOwn {base : Nat} {w : World} {a : Option Addr} {n c : Nat} {b : List Nat} (hb : b.length = n) (h : w.ownsRow base 5 1 (.slice a n c) n (byV b)) (s : Nat) : OwnB base w ⟨a, c, b, s⟩ := by
  rcases h.2 with ⟨e, h0⟩ | ⟨g, cap, cur, e, h1, h2, h3, h4, h5, h6⟩
  · injection e with e1 e2 e3
    exact .inl ⟨e1, List.eq_nil_of_length_eq_zero (show b.length = 0 by omega), e3⟩
  · injection e with e1 e2 e3
    refine .inr ⟨g, cur, e1, h1, h2, by simp only; omega, by simp only; omega, by simp only; omega, ?_⟩
    simp only
    rw [hb, ← h6, Nat.mul_one]
theorem OwnB.append {base : Nat} {w : World} {f : Fi} (h : OwnB base w f) {tx : TypeId} {x : Value} {m : Nat} {bs : List Nat} (hs : Src Tryd.prog 1 tx x m (byV bs) w) (hm : bs.length = m) (hlen : f.b.length + m ≤ 1000000000) (hbase : base ≤ w.heap.size) (ty : TypeId) :
    ∃ a' c' w', (Builtin.append_ #[22, tx] ty #[.slice f.a f.b.length f.c, x]).run Tryd.prog w = .ok (.slice a' (f.b.length + m) c') w' ∧ (∀ s, OwnB base w' ⟨a', c', f.b ++ bs, s⟩) ∧ Kept (fun k => f.v.ownBlock = some k) w w' ∧
      ∀ k, (Value.slice a' (f.b.length + m) c').ownBlock = some k → f.v.ownBlock = some k ∨ w.heap.size ≤ k := by
  obtain ⟨iI, hiI, hzI0, hzI1, hzI2⟩ := info_parts Tryd.infoU8
  rcases h with ⟨h1, h2, h3⟩ | ⟨g, cur, h1, h2, h3, h4, h5, h6, h7⟩
  · obtain ⟨v', w', r1, r2, r3, r4, r5⟩ := run_append_own_src (P := Tryd.prog) w base 22 tx ty 5 iI (.int .u8 0) 1 1 Tryd.underlying22 hiI hzI0 hzI1 hzI2 rfl (.slice none 0 0) 0 [] (World.ownsRow_nil w base 5 1) x m (byV bs) hs (by unfold maxLen; omega) (by omega) hbase
    obtain ⟨a', c', rfl⟩ := ownsRow_slice r2
    rw [h1, h2, h3]
    rw [Nat.zero_add] at r1 r2
    refine ⟨a', c', w', by simpa using r1, fun s => OwnB.ofOwn (n := m) hm (by simpa using r2) s, (Kept.refl _ w).grown r3 (fun k e _ => by cases e), fun k e => ?_⟩
    replace e : (Value.slice a' (0 + m) c').ownBlock = some k := by cases a' <;> exact e
    rcases r5 with r5 | r5
    · have := r5.symm.trans e
      cases this
    · have := r5.symm.trans e
      injection this with this
      exact .inr (by omega)
  · have e0 : f.v.ownBlock = some g := by unfold Fi.v; rw [h1]; rfl
    rw [h1]
    by_cases hroom : f.b.length + m ≤ f.c
    · have hfit : f.b.length * iI.size + (byV bs).length ≤ cur.size := by rw [hzI1, byV_length]; omega
      have hr := run_append_room_any (P := Tryd.prog) w 22 tx ty 5 iI Tryd.underlying22 hiI g f.b.length f.c cur h3 x m (byV bs) (by rw [hzI1]; exact hs) hroom hfit
      refine ⟨_, _, _, hr, fun s => .inr ⟨g, _, rfl, h2, setRow_heap w g cur _ 5 _ h3, ?_, ?_, h6, ?_⟩, ⟨rfl, rfl, rfl, by simp, fun k _ hk => setRow_other w g k _ (fun e => hk (by rw [e0, e]))⟩, fun k e => .inl (by rw [e0]; exact e)⟩
      · simp only [List.length_append]; omega
      · simp only [List.size_toArray, List.length_append, List.length_take, List.length_drop, Array.length_toList, byV_length]
        omega
      · simp only [hzI1, Nat.mul_one]
        rw [h7]
        have e1 : (f.b ++ bs).length = (byV f.b ++ byV bs).length := by rw [← byV_append, byV_length]
        rw [e1, List.take_left, byV_append]
    · have holds : ∀ j u, (byV f.b)[j]? = some u → w.cell? ((⟨g, 0, none⟩ : Addr).add j) = some u := fun j u hu => by
        rw [addr_add0, cell_of_row _ _ j _ _ _ h3]
        rw [← h7, List.getElem?_take] at hu
        split at hu
        · rw [← Array.getElem?_toList]; exact hu
        · cases hu
      have hold : (Builtin.firstCells iI.size f.b.length (.slice (some ⟨g, 0, none⟩) f.b.length f.c)).run Tryd.prog w.drew = .ok (byV f.b).toArray w.drew :=
        run_firstCells_some w.drew iI.size f.b.length ⟨g, 0, none⟩ f.b.length f.c (byV f.b) (by rw [hzI1, byV_length]; omega) (by simpa using holds)
      have hr := run_append_grow_src (P := Tryd.prog) w 22 tx ty 5 iI (.int .u8 0) Tryd.underlying22 hiI hzI0 (some ⟨g, 0, none⟩) f.b.length f.c (byV f.b) hold x m (byV bs) (by rw [hzI1]; exact hs) (by omega) (by omega) (growslice_fits (by omega) (by rw [hzI2]; omega))
      have hge := grownCap_ge w (f.b.length + m) f.c 5
      have hcm : grownCap w (f.b.length + m) f.c 5 ≤ maxLen := grownCap_le_maxLen w (f.b.length + m) f.c 5 (by unfold maxLen; omega)
      have e1 : (byV f.b ++ byV bs).length = f.b.length + m := by rw [← byV_append, byV_length, List.length_append, hm]
      refine ⟨_, _, _, hr, fun s => .inr ⟨w.heap.size, _, rfl, hbase, heap_alloc_new w.drew _, by simp only [List.length_append]; omega, ?_, hcm, ?_⟩, ⟨rfl, rfl, rfl, by simp, fun k hk _ => Below.heap_alloc w.drew _ k hk⟩, fun k e => ?_⟩
      · simp only [Array.size_append, List.size_toArray, size_zeroCells, e1]
        have : (Value.int IntKind.u8 0).cells.size = 1 := rfl
        rw [this]
        omega
      · simp only
        have e2 : (f.b ++ bs).length = (byV f.b ++ byV bs).length := by rw [← byV_append, byV_length]
        rw [e2, Array.toList_append]
        rw [byV_append]
        exact List.take_left
      · simp only [Value.ownBlock, Option.some.injEq] at e
        exact .inr (by omega)
theorem step_append_run {P : Program} {ops : Array Oper} {o : Oper} {a : Act} {K : Act → World → Prop} {Q : Exit → Act → World → Prop} {E : Prop} {w : World} (hgd : o.guard = none) (s x : Operand) (t tx : TypeId)
    (ho : o.op = .call { callee := .builtin .append, args := #[s, x], argTypes := #[t, tx] }) (v y : Value) (hs : a.eval s = v) (hx : a.eval x = y) {v' : Value} {w' : World}
    (hr : (Builtin.append_ #[t, tx] o.type #[v, y]).run P w = .ok v' w') (h : K (a.put o.dst v') w') : if Region.wanted o (yielded ops a.tmps) = true then Oper.wp P o a w K Q else E := by
  have hw : Region.wanted o (yielded ops a.tmps) = true := by simp [Region.wanted, hgd]
  rw [if_pos hw]
  unfold Oper.wp execOp
  simp only [ho, resolve, invoke, builtin, Sem.run_bind, Sem.run_pure, Result.andThen_ok, List.map_toArray, List.map_cons, List.map_nil, hs, hx, hr]
  exact h
theorem slAt_kept8 {S : Nat → Prop} {w w' : World} {a : Option Addr} {n c : Nat} {xs : List Value} (h : SlAt w (.slice a n c) xs) (hk : Kept S w w') (hn : xs ≠ [] → ∀ k, (Value.slice a n c).ownBlock = some k → ¬ S k) : SlAt w' (.slice a n c) xs := by
  by_cases e : xs = []
  · subst e
    obtain ⟨ao, c', e1, _, _⟩ := h.val
    exact ⟨ao, c', e1, fun _ => rfl, fun _ _ j u hu => by simp at hu⟩
  · exact h.kept hk (hn e)
set_option maxRecDepth 100000 in
set_option maxHeartbeats 4000000 in
theorem dAppend_any (base db mb : Nat) (L : List (ByteArray × Fi)) (D : DA) (s : ByteArray) (hs : s.size ≤ maxLen) (a2 : Option Addr) (n2 c2 : Nat) (bs : List Nat) (hbs : bs.length = n2) (hlt : ∀ x ∈ bs, x < 256) (hl2 : n2 ≤ 100000000) (w : World) (h : DK base w db mb L D)
    (hsrc : SlAt w (.slice a2 n2 c2) (byV bs)) (hne : byV bs ≠ [] → ∀ j, (Value.slice a2 n2 c2).ownBlock = some j → j ≠ db) :
    Calls Tryd.prog 69 #[.pointer (some ⟨db, 0, none⟩), .string s, .slice a2 n2 c2] w (DTo base w db mb L (appendD D s bs)) := by
  have HC := Lib.hid (dchangeOf_any base db mb L D s hs w h)
  have HX := Lib.hid (And.intro (fun e : (beginOf D s).2 = 0 => beginOf_zero e) (fun e : (beginOf D s).2 ≠ 0 => beginOf_ne e))
  have hok := appendD_ok h.ok s hlt
  unfold appendD at hok ⊢
  obtain ⟨g, hg⟩ : ∃ g : PF → DA → DA × Int, g = fun f D => if D.cap - usedL D.L < (bs.length : Int) then (D, 12) else ({ D with L := putS D.L s ⟨f.b ++ bs, f.s⟩ }, 0) := ⟨_, rfl⟩
  rw [← hg] at hok ⊢
  have HG := Lib.hid (And.intro hg hok)
  obtain ⟨r, hr⟩ : ∃ r, r = beginOf D s := ⟨_, rfl⟩
  rw [← hr] at HC HX
  obtain ⟨D1, z⟩ := r
  have HS := Lib.hid (And.intro hs (And.intro hbs hl2))
  have HSRC := Lib.hid (And.intro hsrc hne)
  have HH0 := Lib.hid h
  clear hr hs h hg hok hbs hlt hl2 hsrc hne
  go_enter Tryd.func69, Tryd.ntmps69
  go_wp2_with fail
  refine HC.out.mono ?_
  rintro e w1 ⟨rfl, h1, hk1⟩
  have HD := Lib.hid (And.intro h1 hk1)
  clear h1 hk1
  by_cases hz : z = 0
  · have q0 : (z != 0) = false := bneF hz
    obtain ⟨p, hp, hgp⟩ := HX.out.1 hz
    have hy := hgp g
    have hok := HG.out.2
    rw [hy, HG.out.1] at hok
    have HY := Lib.hid (And.intro hy hok)
    subst hz
    have h1 := HD.out.1
    have hg1 := h1.get s
    rw [hp] at hg1
    cases hf : getM L s with
    | none => rw [hf] at hg1; cases hg1
    | some f =>
      obtain ⟨a, c, b, y⟩ := f
      have hpb : p = ⟨b, y⟩ := by
        rw [hf] at hg1
        simp only [Option.map_some, Fi.t, Option.some.injEq] at hg1
        exact hg1.symm
      have HPB := Lib.hid hpb
      obtain ⟨_, c1, c2', _⟩ := h1.c
      obtain ⟨u, hu0⟩ : ∃ u, u = usedL D1.L := ⟨_, rfl⟩
      have hcap := h1.ok.capR
      have hus := h1.ok.used
      rw [← hu0] at c2' hus
      have hsm := h1.bytes_small hf
      have hub : b.length ≤ u := by
        have h3 := usedL_del h1.ok.asc.pair s
        rw [hp, hpb] at h3
        simp only [szM] at h3
        omega
      have HU := Lib.hid hu0
      have HF := Lib.hid hf
      obtain ⟨cp, hcp⟩ : ∃ cp, cp = D1.cap := ⟨_, rfl⟩
      rw [← hcp] at c1 hcap hus
      have HCP := Lib.hid hcp
      by_cases hsp : cp - (u : Int) < (n2 : Int)
      · have HE : Hid (behindD D (withF s g) = (D1, 12)) := Lib.hid (by
          rw [HY.out.1, HG.out.1]
          show (if D1.cap - usedL D1.L < (bs.length : Int) then _ else _) = _
          rw [if_pos (by have := HU.out; have := HCP.out; have := HS.out.2.1; omega)])
        clear hp hgp hy hok h1 hg1 hf hpb hu0 hsm hub hcp
        go_upto_region 4 with fail
        go_region
        go_wp2
        go_ret
        rw [HE.out]
        exact BeganTo.to ⟨rfl, HD.out.1.kept ((Kept.refl (fun _ => False) _).drew) (fun _ _ x => x), HD.out.2.drew⟩
      · have HE : Hid (behindD D (withF s g) = ({ D1 with L := putS D1.L s ⟨b ++ bs, y⟩ }, 0) ∧ DOk { D1 with L := putS D1.L s ⟨b ++ bs, y⟩ }) := Lib.hid (by
          have e := HY.out.1
          rw [HG.out.1] at e
          have e' : (if D1.cap - usedL D1.L < (bs.length : Int) then (D1, (12 : Int)) else ({ D1 with L := putS D1.L s ⟨p.b ++ bs, p.s⟩ }, 0)) = ({ D1 with L := putS D1.L s ⟨b ++ bs, y⟩ }, 0) := by
            rw [if_neg (by have := HU.out; have := HCP.out; have := HS.out.2.1; omega), HPB.out]
          refine ⟨by rw [HG.out.1]; exact e.trans e', ?_⟩
          have hh := congrArg Prod.fst e'
          simp only at hh
          rw [← hh]
          exact HY.out.2)
        clear hp hgp hy hok hg1 hpb hu0 hcp
        go_upto_region 4 with fail
        go_region
        obtain ⟨wd, hwd⟩ : ∃ wd, wd = w1.drew := ⟨_, rfl⟩
        rw [← hwd]
        have kd : Kept (fun _ => False) w1 wd := by rw [hwd]; exact (Kept.refl _ _).drew
        have hd := h1.kept kd (fun _ _ x => x)
        have HKD := Lib.hid kd
        have hl := (hd.look HS.out.1).1
        rw [lookF_some hf] at hl
        simp only at hl
        obtain ⟨n, hn⟩ : ∃ n, n = b.length := ⟨_, rfl⟩
        rw [← hn] at hl
        obtain ⟨q, hq⟩ : ∃ q, q = wd.heap.size := ⟨_, rfl⟩
        obtain ⟨wa, hwa⟩ : ∃ wa, wa = wd.alloc (.cells #[.slice a n c, .int .i64 (y : Int)] 114) := ⟨_, rfl⟩
        have ka : Kept (fun _ => False) wd wa := by rw [hwa]; exact (Kept.refl _ _).alloc _
        have BA : BoxAt wa q 114 #[.slice a n c, .int .i64 (y : Int)] := by rw [hwa, hq]; exact BoxAt.new wd _ _
        have kad : Kept (fun _ => False) wd wa.drew := ka.drew
        have ha := hd.kept kad (fun _ _ x => x)
        have hkw : Kept (fun k => k = db) w wa.drew := HD.out.2.trans ((kd.trans kad).mono (fun _ _ x => x.elim))
        have hsrc : SlAt wa.drew (.slice a2 n2 c2) (byV bs) := slAt_kept8 HSRC.out.1 hkw (fun h0 j e x => HSRC.out.2 h0 j e x)
        have hown : OwnB base wa.drew ⟨a, c, b, y⟩ := ha.data _ (getM_mem hf)
        have hsr := hsrc.src Tryd.underlying22 (byV_one bs)
        rw [byV_length, HS.out.2.1] at hsr
        obtain ⟨a4, c4, w4, hap, ho4, hk4, hb4⟩ := hown.append hsr HS.out.2.1 (by have := hsm.1; have := HS.out.2.2; simp only at *; omega) (Nat.le_of_lt (Nat.lt_of_le_of_lt ha.base.1 ha.box.lt)) 22
        have hnb : ∀ k, (⟨a, c, b, y⟩ : Fi).v.ownBlock = some k → k ≠ db ∧ k ≠ mb ∧ k ≠ q := fun k e => by
          obtain ⟨n1, n2⟩ := ha.noBox (getM_mem hf) e
          refine ⟨n1, n2, fun x => ?_⟩
          have h5 := (hd.lt (.inr (.inr ⟨_, getM_mem hf, e⟩))).1
          omega
        have b4 : BoxAt w4 db 111 (boxD mb D1) := ha.box.kept hk4 (fun e => (hnb db e).1 rfl)
        have m4 := ha.map.kept hk4 (fun e => (hnb mb e).2.1 rfl)
        have q4 : BoxAt w4 q 114 #[.slice a n c, .int .i64 (y : Int)] := (BA.kept ((Kept.refl (fun _ => False) wa).drew) (fun x => x)).kept hk4 (fun e => (hnb q e).2.2 rfl)
        obtain ⟨N, hN⟩ : ∃ N, N = n + n2 := ⟨_, rfl⟩
        rw [← hn, ← hN] at hap hb4
        have hNl : N = (b ++ bs).length := by rw [List.length_append, hN, hn, HS.out.2.1]
        obtain ⟨w5, hu5, hm5, hk5⟩ := m4.update Tryd.underlying9 Tryd.underlying109 HS.out.1 (⟨a4, c4, b ++ bs, y⟩ : Fi).val (by have := ha.ok.count; have := ha.len; unfold mapM maxLen; rw [List.length_map]; omega)
        replace hu5 : (Instr.mapUpdate 109 (.map (some mb)) (.string s) (.agg #[.slice a4 N c4, .int .i64 (y : Int)])).run Tryd.prog w4 = .ok () w5 := by
          unfold Fi.val at hu5
          simp only [← hNl] at hu5
          exact hu5
        have b5 := b4.kept hk5 ha.ne
        have k6 : Kept (fun k => k = db) w5 (w5.setCell ⟨db, 2, none⟩ (.int .i64 ((u : Int) + (n2 : Int)))) := kept_set w5 db 2 _
        have HR := Lib.hid (show DTo base w db mb L ({ D1 with L := putS D1.L s ⟨b ++ bs, y⟩ }, 0) (.returned (.int .i64 0)) (w5.setCell ⟨db, 2, none⟩ (.int .i64 ((u : Int) + (n2 : Int)))) from by
          have hnb5 : ∀ k, (⟨a4, c4, b ++ bs, y⟩ : Fi).v.ownBlock = some k → k ≠ mb ∧ k ≠ db := fun k e => by
            unfold Fi.v at e
            simp only [← hNl] at e
            obtain ⟨cur, h6, _⟩ := (ho4 y).block (j := k) (by unfold Fi.v; simp only [← hNl]; exact e)
            refine ⟨m4.notCells h6, fun x => ?_⟩
            have b4' := b4
            unfold BoxAt at b4'
            rw [x, b4'] at h6
            injection h6 with h6
            injection h6 with _ h6
            exact absurd h6 (by decide)
          have hput := ha.put (s := s) (f := ⟨a4, c4, b ++ bs, y⟩) (D' := { D1 with L := putS D1.L s ⟨b ++ bs, y⟩ }) (w' := w5.setCell ⟨db, 2, none⟩ (.int .i64 ((u : Int) + (n2 : Int)))) HE.out.2 rfl (by
              have e := usedL_put ha.ok.asc.pair s ⟨b ++ bs, y⟩
              have hg2 := ha.get s
              rw [hf] at hg2
              rw [← hg2] at e
              simp only [Option.map_some, szM, Fi.t, List.length_append] at e
              have := HU.out
              have := HS.out.2.1
              exact usedBox (M := putS D1.L s ⟨b ++ bs, y⟩) b5 (by omega) rfl) (hm5.kept k6 (fun e => ha.ne e.symm)) (((ho4 y).kept hk5 (fun k e => (hnb5 k e).1)).kept k6 (fun k e => (hnb5 k e).2))
            (((hk4.mono (fun k _ e => .inr (.inr (by rw [lookF_some hf]; exact e)))).trans (hk5.mono (fun k _ e => .inr (.inl e)))).trans (k6.mono (fun k _ e => .inl e))) (fun k e => by
              rw [lookF_some hf]
              unfold Fi.v at e
              simp only [← hNl] at e
              exact hb4 k e)
          exact DTo.behind hkw ⟨_, rfl, hput⟩)
        have cA := ha.c.1
        have cD := hd.c.1
        have cA4 : w4.cell? ⟨db, 0, none⟩ = some (.map (some mb)) := b4.cell rfl
        have qA0 : wa.cell? ⟨q, 0, none⟩ = some (.slice a n c) := BA.cell rfl
        have qA1 : wa.cell? ⟨q, 1, none⟩ = some (.int .i64 (y : Int)) := BA.cell rfl
        have q40 : w4.cell? ⟨q, 0, none⟩ = some (.slice a n c) := q4.cell rfl
        have q41 : w4.cell? ⟨q, 1, none⟩ = some (.int .i64 (y : Int)) := q4.cell rfl
        have c52 : w5.cell? ⟨db, 2, none⟩ = some (.int .i64 (u : Int)) := by rw [HU.out]; exact b5.cell rfl
        have f52 := b5.fz 2
        have hu9 : u ≤ 4194304 := by omega
        have hn29 : n2 ≤ 100000000 := HS.out.2.2
        have HAP := Lib.hid hap
        have HW := Lib.hid (And.intro hwa hq)
        clear hap hf h1 hwd hwa hq hd kd ka kad ha hkw hsrc hown hsr ho4 hk4 hb4 hnb b4 m4 q4 hm5 hk5 b5 k6 BA hn hN hNl hsm hub
        go_upto_region 7 with fail
        rw [← HW.out.1, ← HW.out.2]
        go_region_law (refine step_append_run (by rfl) (.tmp 39) (.tmp 40) _ _ (by rfl) _ _ (by rfl) (by rfl) HAP.out ?_)
        all_goals (go_wp2; go_ret; rw [HE.out.1]; exact HR.out)
  · have q0 : (z != 0) = true := bneT hz
    have HY := Lib.hid (HX.out.2 hz)
    clear hz
    go_wp2
    go_ret
    rw [HY.out]
    exact BeganTo.to ⟨rfl, HD.out.1, HD.out.2⟩
end Go.Proofs.YtficodklidaheaaDoor
/- Layer 19: Append. -/
namespace Go.Proofs.YtficodklidaheaaDoor
open Go.RowKit
attribute [local go_sem ↓] Go.wp_at_zero Go.wp_at_succ

theorem LogAt.kept {S : Nat → Prop} {w w' : World} {lb db : Nat} {s : ByteArray} {n size : Int} (h : LogAt w lb db s n size) (k : Kept S w w') (hn : ¬ S lb) : LogAt w' lb db s n size := BoxAt.kept h k hn
/-- A log's box is none of the disk's blocks. -/
theorem LogAt.apart {base : Nat} {w : World} {db mb lb : Nat} {L : List (ByteArray × Fi)} {D : DA} {s : ByteArray} {n size : Int} (hl : LogAt w lb db s n size) (h : DK base w db mb L D) : ¬ foot db mb L lb := by
  intro f
  rcases f with e | e | ⟨p, hp, e⟩
  · subst e
    have h1 := h.box
    unfold LogAt at hl
    unfold BoxAt at hl h1
    rw [h1] at hl
    injection hl with hl
    simp at hl
  · subst e
    exact h.map.notCells hl rfl
  · obtain ⟨cur, hc, _⟩ := (h.data p hp).block e
    unfold LogAt BoxAt at hl
    rw [hc] at hl
    injection hl with hl
    simp at hl
/-- What a log's Append leaves. -/
def LogTo (base : Nat) (w : World) (db mb lb : Nat) (L : List (ByteArray × Fi)) (s : ByteArray) (n size : Int) (k : Nat) (r : DA × Int) (e : Ending) (w' : World) : Prop :=
  ∃ L', e = .returned (.int .i64 r.2) ∧ DK base w' db mb L' r.1 ∧ Kept (fun j => j = lb ∨ foot db mb L j) w w' ∧ Foot w db mb L L' ∧ (r.2 = 0 → LogAt w' lb db s (n + 1) (size + k)) ∧ (r.2 ≠ 0 → LogAt w' lb db s n size)
set_option maxRecDepth 100000 in
set_option maxHeartbeats 4000000 in
theorem wAppend_any (base db mb lb : Nat) (L : List (ByteArray × Fi)) (D : DA) (s : ByteArray) (hs : s.size ≤ maxLen) (n size : Int) (hn : 0 ≤ n ∧ n ≤ 1000000000) (hsz : 0 ≤ size ∧ size ≤ 1000000000) (v : Value) (l : List Nat) (hl : l.length ≤ 65536) (w : World) (h : DK base w db mb L D) (hlog : LogAt w lb db s n size) (HB : Row8 w v l) (HN : Nibs w) :
    Calls Tryd.prog 31 #[.pointer (some ⟨lb, 0, none⟩), v] w (LogTo base w db mb lb L s n size (9 + l.length) (appendD D s (frameL l))) := by
  have HW := Lib.hid (wrap_any v l hl w HB HN)
  have HLT := Lib.hid (frameL_lt l HB.lt)
  have HH := Lib.hid (And.intro h hlog)
  obtain ⟨a0, c0, hv⟩ : ∃ a0 c0, v = .slice a0 l.length c0 := by obtain ⟨a0, c0, e, _⟩ := HB; exact ⟨a0, c0, e⟩
  have HLN : Hid ((frameL l).length = 9 + l.length ∧ 9 + l.length ≤ 100000) := Lib.hid ⟨frameL_len l, by omega⟩
  obtain ⟨fl, hfl⟩ : ∃ fl, fl = 9 + l.length := ⟨_, rfl⟩
  rw [← hfl] at HLN ⊢
  have HFL := Lib.hid hfl
  obtain ⟨m, hm⟩ : ∃ m, m = l.length := ⟨_, rfl⟩
  rw [← hm] at hv
  subst hv
  obtain ⟨F, hF⟩ : ∃ F, F = frameL l := ⟨_, rfl⟩
  rw [← hF] at HLT HLN ⊢
  have HFF := Lib.hid hF
  obtain ⟨r, hr⟩ : ∃ r, r = appendD D s F := ⟨_, rfl⟩
  rw [← hr]
  have HR := Lib.hid hr
  have wn : IntKind.i64.wrap (n + 1) = n + 1 := by rw [IntWalk.i64_in _ ⟨by omega, by omega⟩]
  have wn2 : wrap64 (n + 1) = n + 1 := by unfold wrap64; omega
  have ws : IntKind.i64.wrap (size + (fl : Int)) = size + (fl : Int) := by rw [IntWalk.i64_in _ ⟨by omega, by omega⟩]
  have ws2 : wrap64 (size + (fl : Int)) = size + (fl : Int) := by unfold wrap64; omega
  clear h hlog HB HN hl hfl hm hn hsz hF hr
  go_enter Tryd.func31, Tryd.ntmps31
  go_wp2_with fail
  refine HW.out.mono ?_
  rintro e w1 hw
  obtain ⟨fv, rfl, hown, hk1⟩ := hw
  obtain ⟨fa, fc, rfl⟩ := ownsRow_slice hown
  rw [← HFL.out] at hown ⊢
  rw [← HFF.out] at hown
  have hat : SlAt w1 (.slice fa fl fc) (byV F) := SlAt.ofOwn hown
  have hne : ∀ j, (Value.slice fa fl fc).ownBlock = some j → j ≠ db := fun j e x => by
    have h1 := ownsRow_lt hown e
    have h2 := (HH.out.1.lt (k := db) (.inl rfl)).1
    omega
  have k2 : Kept (fun _ => False) w1 w1.drew := (Kept.refl _ _).drew
  have HD := Lib.hid ((dAppend_any base db mb L D s hs fa fl fc F HLN.out.1 HLT.out (by have := HLN.out; omega) w1.drew (HH.out.1.kept (hk1.trans k2) (fun _ _ x => x)) (hat.kept k2 (fun _ _ x => x)) (fun _ => hne)).mono (fun e w' => DTo.pre (hk1.trans k2)))
  have HL1 := Lib.hid (HH.out.2.kept (hk1.trans k2) (fun x => x))
  have c0 := HL1.out.cell (i := 0) (u := .pointer (some ⟨db, 0, none⟩)) rfl
  have c1 := HL1.out.cell (i := 1) (u := .string s) rfl
  rw [← HR.out] at HD
  have HAP := Lib.hid (HH.out.2.apart HH.out.1)
  have HKK := Lib.hid (hk1.trans k2)
  clear hown hk1 hat hne k2
  go_wp2
  go_region_with (go_at_call 69; refine HD.out.mono ?_; rintro e w4 ⟨L', rfl, h4, k4, f4⟩; have HL4 := Lib.hid (HH.out.2.kept k4 HAP.out); have H4 := Lib.hid (And.intro h4 (And.intro k4 f4)); clear h4 k4 f4)
  all_goals (
    obtain ⟨z, hz⟩ : ∃ z : Int, z = r.2 := ⟨_, rfl⟩
    rw [← hz]
    by_cases h0 : z = 0
    · have d2 := HL4.out.cell (i := 2) (u := .int .i64 n) rfl
      have d3 := HL4.out.cell (i := 3) (u := .int .i64 size) rfl
      have f2 := BoxAt.fz HL4.out 2
      have f3 := BoxAt.fz HL4.out 3
      have HX := Lib.hid (show LogTo base w db mb lb L s n size fl r (.returned (.int .i64 0)) ((w4.setCell ⟨lb, 2, none⟩ (.int .i64 (n + 1))).setCell ⟨lb, 3, none⟩ (.int .i64 (size + (fl : Int)))) from by
        have k5 := (kept_set w4 lb 2 (.int .i64 (n + 1))).trans (kept_set _ lb 3 (.int .i64 (size + (fl : Int))))
        have e0 : r.2 = 0 := by rw [← hz]; exact h0
        refine ⟨L', by rw [e0], H4.out.1.kept k5 (fun j f e => ?_), (H4.out.2.1.mono (fun _ _ e => .inr e)).trans (k5.mono (fun _ _ e => .inl e)), H4.out.2.2, fun _ => ?_, fun x => absurd e0 x⟩
        · rw [e] at f
          rcases H4.out.2.2 _ f with x | x
          · exact HAP.out x
          · have := BoxAt.lt HH.out.2; omega
        · exact ((BoxAt.set HL4.out 2 (.int .i64 (n + 1))).set 3 (.int .i64 (size + (fl : Int)))))
      subst h0
      clear hz
      go_wp2
      go_ret
      exact HX.out
    · have q0 : (z != 0) = true := by simp [bne, beq_eq_false_iff_ne.2 h0]
      have HX := Lib.hid (show LogTo base w db mb lb L s n size fl r (.returned (.int .i64 z)) w4 from ⟨L', by rw [hz], H4.out.1, H4.out.2.1.mono (fun _ _ e => .inr e), H4.out.2.2, fun x => absurd (hz.trans x) h0, fun _ => HL4.out⟩)
      clear h0 hz
      go_wp2
      go_ret
      exact HX.out)
end Go.Proofs.YtficodklidaheaaDoor
