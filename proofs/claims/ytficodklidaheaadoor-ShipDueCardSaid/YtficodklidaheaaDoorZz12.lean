/- Texts put together: S8, SA, WA, F18r. -/
import Derived.Test.YtficodklidaheaaDoorZz11
import Derived.Test.YtficodklidaheaaDoorZz4
import Derived.Test.YtficodklidaheaaDoorZz9
/- Layer 18: append onto a file's bytes; Append. -/
namespace Go.Proofs.YtficodklidaheaaDoor
open Go.RowKit
attribute [local go_sem ↓] Go.wp_at_zero Go.wp_at_succ

theorem OwnB.ofOwn {base : Nat} {w : World} {a : Option Addr} {n c : Nat} {b : List Nat} (hb : b.length = n) (h : w.ownsRow base 5 1 (.slice a n c) n (byV b)) (s : Nat) : OwnB base w ⟨a, c, b, s⟩ := by
  rcases h.2 with ⟨e, h0⟩ | ⟨g, cap, cur, e, h1, h2, h3, h4, h5, h6⟩
  · injection e with e1 e2 e3
    exact .inl ⟨e1, List.eq_nil_of_length_eq_zero (show b.length = 0 by omega), e3⟩
  · injection e with e1 e2 e3
    refine .inr ⟨g, cur, e1, h1, h2, by simp only; omega, by simp only; omega, by simp only; omega, ?_⟩
    simp only
    rw [hb, ← h6, Nat.mul_one]
theorem OwnB.append {base : Nat} {w : World} {f : Fi} (h : OwnB base w f) {tx : TypeId} {x : Value} {m : Nat} {bs : List Nat} (hs : Src Tryd.prog 1 tx x m (byV bs) w) (hm : bs.length = m) (hlen : f.b.length + m ≤ 1000000000) (hbase : base ≤ w.heap.size) (ty : TypeId) :
    ∃ a' c' w', (Builtin.append_ #[22, tx] ty #[.slice f.a f.b.length f.c, x]).run Tryd.prog w = .ok (.slice a' (f.b.length + m) c') w' ∧ (∀ s, OwnB base w' ⟨a', c', f.b ++ bs, s⟩) ∧ Kept (fun k => f.v.ownBlock = some k) w w' ∧
      ∀ k, (Value.slice a' (f.b.length + m) c').ownBlock = some k → f.v.ownBlock = some k ∨ w.heap.size ≤ k := by
  obtain ⟨iI, hiI, hzI0, hzI1, hzI2⟩ := info_parts Tryd.infoU8
  rcases h with ⟨h1, h2, h3⟩ | ⟨g, cur, h1, h2, h3, h4, h5, h6, h7⟩
  · obtain ⟨v', w', r1, r2, r3, r4, r5⟩ := run_append_own_src (P := Tryd.prog) w base 22 tx ty 5 iI (.int .u8 0) 1 1 Tryd.underlying22 hiI hzI0 hzI1 hzI2 rfl (.slice none 0 0) 0 [] (World.ownsRow_nil w base 5 1) x m (byV bs) hs (by unfold maxLen; omega) (by omega) hbase
    obtain ⟨a', c', rfl⟩ := ownsRow_slice r2
    rw [h1, h2, h3]
    rw [Nat.zero_add] at r1 r2
    refine ⟨a', c', w', by simpa using r1, fun s => OwnB.ofOwn (n := m) hm (by simpa using r2) s, (Kept.refl _ w).grown r3 (fun k e _ => by cases e), fun k e => ?_⟩
    replace e : (Value.slice a' (0 + m) c').ownBlock = some k := by cases a' <;> exact e
    rcases r5 with r5 | r5
    · have := r5.symm.trans e
      cases this
    · have := r5.symm.trans e
      injection this with this
      exact .inr (by omega)
  · have e0 : f.v.ownBlock = some g := by unfold Fi.v; rw [h1]; rfl
    rw [h1]
    by_cases hroom : f.b.length + m ≤ f.c
    · have hfit : f.b.length * iI.size + (byV bs).length ≤ cur.size := by rw [hzI1, byV_length]; omega
      have hr := run_append_room_any (P := Tryd.prog) w 22 tx ty 5 iI Tryd.underlying22 hiI g f.b.length f.c cur h3 x m (byV bs) (by rw [hzI1]; exact hs) hroom hfit
      refine ⟨_, _, _, hr, fun s => .inr ⟨g, _, rfl, h2, setRow_heap w g cur _ 5 _ h3, ?_, ?_, h6, ?_⟩, ⟨rfl, rfl, rfl, by simp, fun k _ hk => setRow_other w g k _ (fun e => hk (by rw [e0, e]))⟩, fun k e => .inl (by rw [e0]; exact e)⟩
      · simp only [List.length_append]; omega
      · simp only [List.size_toArray, List.length_append, List.length_take, List.length_drop, Array.length_toList, byV_length]
        omega
      · simp only [hzI1, Nat.mul_one]
        rw [h7]
        have e1 : (f.b ++ bs).length = (byV f.b ++ byV bs).length := by rw [← byV_append, byV_length]
        rw [e1, List.take_left, byV_append]
    · have holds : ∀ j u, (byV f.b)[j]? = some u → w.cell? ((⟨g, 0, none⟩ : Addr).add j) = some u := fun j u hu => by
        rw [addr_add0, cell_of_row _ _ j _ _ _ h3]
        rw [← h7, List.getElem?_take] at hu
        split at hu
        · rw [← Array.getElem?_toList]; exact hu
        · cases hu
      have hold : (Builtin.firstCells iI.size f.b.length (.slice (some ⟨g, 0, none⟩) f.b.length f.c)).run Tryd.prog w.drew = .ok (byV f.b).toArray w.drew :=
        run_firstCells_some w.drew iI.size f.b.length ⟨g, 0, none⟩ f.b.length f.c (byV f.b) (by rw [hzI1, byV_length]; omega) (by simpa using holds)
      have hr := run_append_grow_src (P := Tryd.prog) w 22 tx ty 5 iI (.int .u8 0) Tryd.underlying22 hiI hzI0 (some ⟨g, 0, none⟩) f.b.length f.c (byV f.b) hold x m (byV bs) (by rw [hzI1]; exact hs) (by omega) (by omega) (growslice_fits (by omega) (by rw [hzI2]; omega))
      have hge := grownCap_ge w (f.b.length + m) f.c 5
      have hcm : grownCap w (f.b.length + m) f.c 5 ≤ maxLen := grownCap_le_maxLen w (f.b.length + m) f.c 5 (by unfold maxLen; omega)
      have e1 : (byV f.b ++ byV bs).length = f.b.length + m := by rw [← byV_append, byV_length, List.length_append, hm]
      refine ⟨_, _, _, hr, fun s => .inr ⟨w.heap.size, _, rfl, hbase, heap_alloc_new w.drew _, by simp only [List.length_append]; omega, ?_, hcm, ?_⟩, ⟨rfl, rfl, rfl, by simp, fun k hk _ => Below.heap_alloc w.drew _ k hk⟩, fun k e => ?_⟩
      · simp only [Array.size_append, List.size_toArray, size_zeroCells, e1]
        have : (Value.int IntKind.u8 0).cells.size = 1 := rfl
        rw [this]
        omega
      · simp only
        have e2 : (f.b ++ bs).length = (byV f.b ++ byV bs).length := by rw [← byV_append, byV_length]
        rw [e2, Array.toList_append]
        rw [byV_append]
        exact List.take_left
      · simp only [Value.ownBlock, Option.some.injEq] at e
        exact .inr (by omega)
theorem step_append_run {P : Program} {ops : Array Oper} {o : Oper} {a : Act} {K : Act → World → Prop} {Q : Exit → Act → World → Prop} {E : Prop} {w : World} (hgd : o.guard = none) (s x : Operand) (t tx : TypeId)
    (ho : o.op = .call { callee := .builtin .append, args := #[s, x], argTypes := #[t, tx] }) (v y : Value) (hs : a.eval s = v) (hx : a.eval x = y) {v' : Value} {w' : World}
    (hr : (Builtin.append_ #[t, tx] o.type #[v, y]).run P w = .ok v' w') (h : K (a.put o.dst v') w') : if Region.wanted o (yielded ops a.tmps) = true then Oper.wp P o a w K Q else E := by
  have hw : Region.wanted o (yielded ops a.tmps) = true := by simp [Region.wanted, hgd]
  rw [if_pos hw]
  unfold Oper.wp execOp
  simp only [ho, resolve, invoke, builtin, Sem.run_bind, Sem.run_pure, Result.andThen_ok, List.map_toArray, List.map_cons, List.map_nil, hs, hx, hr]
  exact h
theorem slAt_kept8 {S : Nat → Prop} {w w' : World} {a : Option Addr} {n c : Nat} {xs : List Value} (h : SlAt w (.slice a n c) xs) (hk : Kept S w w') (hn : xs ≠ [] → ∀ k, (Value.slice a n c).ownBlock = some k → ¬ S k) : SlAt w' (.slice a n c) xs := by
  by_cases e : xs = []
  · subst e
    obtain ⟨ao, c', e1, _, _⟩ := h.val
    exact ⟨ao, c', e1, fun _ => rfl, fun _ _ j u hu => by simp at hu⟩
  · exact h.kept hk (hn e)
set_option maxRecDepth 100000 in
set_option maxHeartbeats 4000000 in
theorem dAppend_any (base db mb : Nat) (L : List (ByteArray × Fi)) (D : DA) (s : ByteArray) (hs : s.size ≤ maxLen) (a2 : Option Addr) (n2 c2 : Nat) (bs : List Nat) (hbs : bs.length = n2) (hlt : ∀ x ∈ bs, x < 256) (hl2 : n2 ≤ 100000000) (w : World) (h : DK base w db mb L D)
    (hsrc : SlAt w (.slice a2 n2 c2) (byV bs)) (hne : byV bs ≠ [] → ∀ j, (Value.slice a2 n2 c2).ownBlock = some j → j ≠ db) :
    Calls Tryd.prog 69 #[.pointer (some ⟨db, 0, none⟩), .string s, .slice a2 n2 c2] w (DTo base w db mb L (appendD D s bs)) := by
  have HC := Lib.hid (dchangeOf_any base db mb L D s hs w h)
  have HX := Lib.hid (And.intro (fun e : (beginOf D s).2 = 0 => beginOf_zero e) (fun e : (beginOf D s).2 ≠ 0 => beginOf_ne e))
  have hok := appendD_ok h.ok s hlt
  unfold appendD at hok ⊢
  obtain ⟨g, hg⟩ : ∃ g : PF → DA → DA × Int, g = fun f D => if D.cap - usedL D.L < (bs.length : Int) then (D, 12) else ({ D with L := putS D.L s ⟨f.b ++ bs, f.s⟩ }, 0) := ⟨_, rfl⟩
  rw [← hg] at hok ⊢
  have HG := Lib.hid (And.intro hg hok)
  obtain ⟨r, hr⟩ : ∃ r, r = beginOf D s := ⟨_, rfl⟩
  rw [← hr] at HC HX
  obtain ⟨D1, z⟩ := r
  have HS := Lib.hid (And.intro hs (And.intro hbs hl2))
  have HSRC := Lib.hid (And.intro hsrc hne)
  have HH0 := Lib.hid h
  clear hr hs h hg hok hbs hlt hl2 hsrc hne
  go_enter Tryd.func69, Tryd.ntmps69
  go_wp2_with fail
  refine HC.out.mono ?_
  rintro e w1 ⟨rfl, h1, hk1⟩
  have HD := Lib.hid (And.intro h1 hk1)
  clear h1 hk1
  by_cases hz : z = 0
  · have q0 : (z != 0) = false := bneF hz
    obtain ⟨p, hp, hgp⟩ := HX.out.1 hz
    have hy := hgp g
    have hok := HG.out.2
    rw [hy, HG.out.1] at hok
    have HY := Lib.hid (And.intro hy hok)
    subst hz
    have h1 := HD.out.1
    have hg1 := h1.get s
    rw [hp] at hg1
    cases hf : getM L s with
    | none => rw [hf] at hg1; cases hg1
    | some f =>
      obtain ⟨a, c, b, y⟩ := f
      have hpb : p = ⟨b, y⟩ := by
        rw [hf] at hg1
        simp only [Option.map_some, Fi.t, Option.some.injEq] at hg1
        exact hg1.symm
      have HPB := Lib.hid hpb
      obtain ⟨_, c1, c2', _⟩ := h1.c
      obtain ⟨u, hu0⟩ : ∃ u, u = usedL D1.L := ⟨_, rfl⟩
      have hcap := h1.ok.capR
      have hus := h1.ok.used
      rw [← hu0] at c2' hus
      have hsm := h1.bytes_small hf
      have hub : b.length ≤ u := by
        have h3 := usedL_del h1.ok.asc.pair s
        rw [hp, hpb] at h3
        simp only [szM] at h3
        omega
      have HU := Lib.hid hu0
      have HF := Lib.hid hf
      obtain ⟨cp, hcp⟩ : ∃ cp, cp = D1.cap := ⟨_, rfl⟩
      rw [← hcp] at c1 hcap hus
      have HCP := Lib.hid hcp
      by_cases hsp : cp - (u : Int) < (n2 : Int)
      · have HE : Hid (behindD D (withF s g) = (D1, 12)) := Lib.hid (by
          rw [HY.out.1, HG.out.1]
          show (if D1.cap - usedL D1.L < (bs.length : Int) then _ else _) = _
          rw [if_pos (by have := HU.out; have := HCP.out; have := HS.out.2.1; omega)])
        clear hp hgp hy hok h1 hg1 hf hpb hu0 hsm hub hcp
        go_upto_region 4 with fail
        go_region
        go_wp2
        go_ret
        rw [HE.out]
        exact BeganTo.to ⟨rfl, HD.out.1.kept ((Kept.refl (fun _ => False) _).drew) (fun _ _ x => x), HD.out.2.drew⟩
      · have HE : Hid (behindD D (withF s g) = ({ D1 with L := putS D1.L s ⟨b ++ bs, y⟩ }, 0) ∧ DOk { D1 with L := putS D1.L s ⟨b ++ bs, y⟩ }) := Lib.hid (by
          have e := HY.out.1
          rw [HG.out.1] at e
          have e' : (if D1.cap - usedL D1.L < (bs.length : Int) then (D1, (12 : Int)) else ({ D1 with L := putS D1.L s ⟨p.b ++ bs, p.s⟩ }, 0)) = ({ D1 with L := putS D1.L s ⟨b ++ bs, y⟩ }, 0) := by
            rw [if_neg (by have := HU.out; have := HCP.out; have := HS.out.2.1; omega), HPB.out]
          refine ⟨by rw [HG.out.1]; exact e.trans e', ?_⟩
          have hh := congrArg Prod.fst e'
          simp only at hh
          rw [← hh]
          exact HY.out.2)
        clear hp hgp hy hok hg1 hpb hu0 hcp
        go_upto_region 4 with fail
        go_region
        obtain ⟨wd, hwd⟩ : ∃ wd, wd = w1.drew := ⟨_, rfl⟩
        rw [← hwd]
        have kd : Kept (fun _ => False) w1 wd := by rw [hwd]; exact (Kept.refl _ _).drew
        have hd := h1.kept kd (fun _ _ x => x)
        have HKD := Lib.hid kd
        have hl := (hd.look HS.out.1).1
        rw [lookF_some hf] at hl
        simp only at hl
        obtain ⟨n, hn⟩ : ∃ n, n = b.length := ⟨_, rfl⟩
        rw [← hn] at hl
        obtain ⟨q, hq⟩ : ∃ q, q = wd.heap.size := ⟨_, rfl⟩
        obtain ⟨wa, hwa⟩ : ∃ wa, wa = wd.alloc (.cells #[.slice a n c, .int .i64 (y : Int)] 114) := ⟨_, rfl⟩
        have ka : Kept (fun _ => False) wd wa := by rw [hwa]; exact (Kept.refl _ _).alloc _
        have BA : BoxAt wa q 114 #[.slice a n c, .int .i64 (y : Int)] := by rw [hwa, hq]; exact BoxAt.new wd _ _
        have kad : Kept (fun _ => False) wd wa.drew := ka.drew
        have ha := hd.kept kad (fun _ _ x => x)
        have hkw : Kept (fun k => k = db) w wa.drew := HD.out.2.trans ((kd.trans kad).mono (fun _ _ x => x.elim))
        have hsrc : SlAt wa.drew (.slice a2 n2 c2) (byV bs) := slAt_kept8 HSRC.out.1 hkw (fun h0 j e x => HSRC.out.2 h0 j e x)
        have hown : OwnB base wa.drew ⟨a, c, b, y⟩ := ha.data _ (getM_mem hf)
        have hsr := hsrc.src Tryd.underlying22 (byV_one bs)
        rw [byV_length, HS.out.2.1] at hsr
        obtain ⟨a4, c4, w4, hap, ho4, hk4, hb4⟩ := hown.append hsr HS.out.2.1 (by have := hsm.1; have := HS.out.2.2; simp only at *; omega) (Nat.le_of_lt (Nat.lt_of_le_of_lt ha.base.1 ha.box.lt)) 22
        have hnb : ∀ k, (⟨a, c, b, y⟩ : Fi).v.ownBlock = some k → k ≠ db ∧ k ≠ mb ∧ k ≠ q := fun k e => by
          obtain ⟨n1, n2⟩ := ha.noBox (getM_mem hf) e
          refine ⟨n1, n2, fun x => ?_⟩
          have h5 := (hd.lt (.inr (.inr ⟨_, getM_mem hf, e⟩))).1
          omega
        have b4 : BoxAt w4 db 111 (boxD mb D1) := ha.box.kept hk4 (fun e => (hnb db e).1 rfl)
        have m4 := ha.map.kept hk4 (fun e => (hnb mb e).2.1 rfl)
        have q4 : BoxAt w4 q 114 #[.slice a n c, .int .i64 (y : Int)] := (BA.kept ((Kept.refl (fun _ => False) wa).drew) (fun x => x)).kept hk4 (fun e => (hnb q e).2.2 rfl)
        obtain ⟨N, hN⟩ : ∃ N, N = n + n2 := ⟨_, rfl⟩
        rw [← hn, ← hN] at hap hb4
        have hNl : N = (b ++ bs).length := by rw [List.length_append, hN, hn, HS.out.2.1]
        obtain ⟨w5, hu5, hm5, hk5⟩ := m4.update Tryd.underlying9 Tryd.underlying109 HS.out.1 (⟨a4, c4, b ++ bs, y⟩ : Fi).val (by have := ha.ok.count; have := ha.len; unfold mapM maxLen; rw [List.length_map]; omega)
        replace hu5 : (Instr.mapUpdate 109 (.map (some mb)) (.string s) (.agg #[.slice a4 N c4, .int .i64 (y : Int)])).run Tryd.prog w4 = .ok () w5 := by
          unfold Fi.val at hu5
          simp only [← hNl] at hu5
          exact hu5
        have b5 := b4.kept hk5 ha.ne
        have k6 : Kept (fun k => k = db) w5 (w5.setCell ⟨db, 2, none⟩ (.int .i64 ((u : Int) + (n2 : Int)))) := kept_set w5 db 2 _
        have HR := Lib.hid (show DTo base w db mb L ({ D1 with L := putS D1.L s ⟨b ++ bs, y⟩ }, 0) (.returned (.int .i64 0)) (w5.setCell ⟨db, 2, none⟩ (.int .i64 ((u : Int) + (n2 : Int)))) from by
          have hnb5 : ∀ k, (⟨a4, c4, b ++ bs, y⟩ : Fi).v.ownBlock = some k → k ≠ mb ∧ k ≠ db := fun k e => by
            unfold Fi.v at e
            simp only [← hNl] at e
            obtain ⟨cur, h6, _⟩ := (ho4 y).block (j := k) (by unfold Fi.v; simp only [← hNl]; exact e)
            refine ⟨m4.notCells h6, fun x => ?_⟩
            have b4' := b4
            unfold BoxAt at b4'
            rw [x, b4'] at h6
            injection h6 with h6
            injection h6 with _ h6
            exact absurd h6 (by decide)
          have hput := ha.put (s := s) (f := ⟨a4, c4, b ++ bs, y⟩) (D' := { D1 with L := putS D1.L s ⟨b ++ bs, y⟩ }) (w' := w5.setCell ⟨db, 2, none⟩ (.int .i64 ((u : Int) + (n2 : Int)))) HE.out.2 rfl (by
              have e := usedL_put ha.ok.asc.pair s ⟨b ++ bs, y⟩
              have hg2 := ha.get s
              rw [hf] at hg2
              rw [← hg2] at e
              simp only [Option.map_some, szM, Fi.t, List.length_append] at e
              have := HU.out
              have := HS.out.2.1
              exact usedBox (M := putS D1.L s ⟨b ++ bs, y⟩) b5 (by omega) rfl) (hm5.kept k6 (fun e => ha.ne e.symm)) (((ho4 y).kept hk5 (fun k e => (hnb5 k e).1)).kept k6 (fun k e => (hnb5 k e).2))
            (((hk4.mono (fun k _ e => .inr (.inr (by rw [lookF_some hf]; exact e)))).trans (hk5.mono (fun k _ e => .inr (.inl e)))).trans (k6.mono (fun k _ e => .inl e))) (fun k e => by
              rw [lookF_some hf]
              unfold Fi.v at e
              simp only [← hNl] at e
              exact hb4 k e)
          exact DTo.behind hkw ⟨_, rfl, hput⟩)
        have cA := ha.c.1
        have cD := hd.c.1
        have cA4 : w4.cell? ⟨db, 0, none⟩ = some (.map (some mb)) := b4.cell rfl
        have qA0 : wa.cell? ⟨q, 0, none⟩ = some (.slice a n c) := BA.cell rfl
        have qA1 : wa.cell? ⟨q, 1, none⟩ = some (.int .i64 (y : Int)) := BA.cell rfl
        have q40 : w4.cell? ⟨q, 0, none⟩ = some (.slice a n c) := q4.cell rfl
        have q41 : w4.cell? ⟨q, 1, none⟩ = some (.int .i64 (y : Int)) := q4.cell rfl
        have c52 : w5.cell? ⟨db, 2, none⟩ = some (.int .i64 (u : Int)) := by rw [HU.out]; exact b5.cell rfl
        have f52 := b5.fz 2
        have hu9 : u ≤ 4194304 := by omega
        have hn29 : n2 ≤ 100000000 := HS.out.2.2
        have HAP := Lib.hid hap
        have HW := Lib.hid (And.intro hwa hq)
        clear hap hf h1 hwd hwa hq hd kd ka kad ha hkw hsrc hown hsr ho4 hk4 hb4 hnb b4 m4 q4 hm5 hk5 b5 k6 BA hn hN hNl hsm hub
        go_upto_region 7 with fail
        rw [← HW.out.1, ← HW.out.2]
        go_region_law (refine step_append_run (by rfl) (.tmp 39) (.tmp 40) _ _ (by rfl) _ _ (by rfl) (by rfl) HAP.out ?_)
        all_goals (go_wp2; go_ret; rw [HE.out.1]; exact HR.out)
  · have q0 : (z != 0) = true := bneT hz
    have HY := Lib.hid (HX.out.2 hz)
    clear hz
    go_wp2
    go_ret
    rw [HY.out]
    exact BeganTo.to ⟨rfl, HD.out.1, HD.out.2⟩
end Go.Proofs.YtficodklidaheaaDoor
/- Layer 18: Rename. -/
namespace Go.Proofs.YtficodklidaheaaDoor
open Go.RowKit
attribute [local go_sem ↓] Go.wp_at_zero Go.wp_at_succ

theorem DK.moved {base : Nat} {w w' : World} {db mb : Nat} {L : List (ByteArray × Fi)} {D D' : DA} (h : DK base w db mb L D) {a c : ByteArray} {f : Fi} (hf : getM L a = some f) (ok : DOk D') (hL : D'.L = putS (delM D.L a) c f.t)
    (hb : BoxAt w' db 111 (boxD mb D')) (hm : MapIs w' mb (setM (delM (mapM Fi.val L) a) c f.val)) (hk : Kept (fun k => k = mb) w w') :
    DK base w' db mb (setM (delM L a) c f) D' ∧ Kept (foot db mb L) w w' ∧ Foot w db mb L (setM (delM L a) c f) := by
  rw [delM_map, setM_map] at hm
  have hfm := getM_mem hf
  have hdp := delM_pair h.pair a
  have hno : ∀ p ∈ L, ∀ j, p.2.v.ownBlock = some j → ¬ j = mb := fun p hp j e => (h.noBox hp e).2
  refine ⟨⟨hb, hm, DK.ofGet (setM_pair hdp c f) ok (fun t => ?_), fun p hp => ?_, fun p hp q hq hne k e => ?_, h.base, ok⟩, hk.mono (fun k _ e => .inr (.inl e)), fun k e => ?_⟩
  · rw [hL, getM_set, getM_put]
    by_cases e : c = t
    · rw [if_pos e, if_pos e]; rfl
    · rw [if_neg e, if_neg e, getM_del, getM_del]
      by_cases e2 : a = t
      · rw [if_pos e2, if_pos e2]; rfl
      · rw [if_neg e2, if_neg e2, h.get]
  · rcases setM_mem' hdp hp with rfl | ⟨hp, _⟩
    · exact (h.data _ hfm).kept hk (fun j e => hno _ hfm j e)
    · exact (h.data _ (delM_mem hp).1).kept hk (fun j e => hno _ (delM_mem hp).1 j e)
  · rcases setM_mem' hdp hp with rfl | ⟨hp, hp'⟩
    · rcases setM_mem' hdp hq with rfl | ⟨hq, hq'⟩
      · exact absurd rfl hne
      · exact h.sep _ hfm q (delM_mem hq).1 (delM_mem hq).2.symm k e
    · rcases setM_mem' hdp hq with rfl | ⟨hq, hq'⟩
      · exact h.sep p (delM_mem hp).1 _ hfm (delM_mem hp).2 k e
      · exact h.sep p (delM_mem hp).1 q (delM_mem hq).1 hne k e
  · rcases e with e | e | ⟨p, hp, e⟩
    · exact .inl (.inl e)
    · exact .inl (.inr (.inl e))
    · rcases setM_mem' hdp hp with rfl | ⟨hp, _⟩
      · exact .inl (.inr (.inr ⟨_, hfm, e⟩))
      · exact .inl (.inr (.inr ⟨p, (delM_mem hp).1, e⟩))
theorem rename_same {D : DA} (h : DOk D) {a : ByteArray} {f : PF} (hf : getM D.L a = some f) : putS (delM D.L a) a f = D.L := by
  refine asc_ext (putS_asc (delM_asc h.asc a) a f) h.asc (fun t => ?_)
  rw [getM_put, getM_del]
  by_cases e : a = t
  · rw [if_pos e, ← e, hf]
  · rw [if_neg e, if_neg e]
theorem rename_two {D : DA} (h : DOk D) (a c : ByteArray) (f : PF) : putS (delM (delM D.L c) a) c f = putS (delM D.L a) c f := by
  refine asc_ext (putS_asc (delM_asc (delM_asc h.asc c) a) c f) (putS_asc (delM_asc h.asc a) c f) (fun t => ?_)
  rw [getM_put, getM_put, getM_del, getM_del, getM_del]
  by_cases e : c = t
  · rw [if_pos e, if_pos e]
  · rw [if_neg e, if_neg e, if_neg e]
theorem rename_used {D : DA} (h : DOk D) {a c : ByteArray} (hac : a ≠ c) {f : PF} (hf : getM D.L a = some f) : usedL (putS (delM D.L a) c f) = usedL (delM D.L c) := by
  have e1 := usedL_put (delM_pair h.asc.pair a) c f
  have e2 := usedL_del h.asc.pair a
  have e3 := usedL_del h.asc.pair c
  rw [getM_del, if_neg hac] at e1
  rw [hf] at e2
  simp only [szM] at e2
  omega
theorem renameD_ne {D : DA} {a c : ByteArray} (h : (beginD D).2 ≠ 0) : renameD D a c = beginD D := behindD_ne h
theorem renameD_zero {D : DA} {a c : ByteArray} (h : (beginD D).2 = 0) : renameD D a c = if nameB c = false then ((beginD D).1, 3) else withF a (fun f D => ({ D with L := putS (delM D.L a) c f }, 0)) (beginD D).1 := behindD_eq h
theorem toList_eqB {a b : ByteArray} (h : a = b) : (a.toList == b.toList) = true := by rw [h]; exact beq_self_eq_true _
set_option maxRecDepth 100000 in
set_option maxHeartbeats 4000000 in
theorem dRename_any (base db mb : Nat) (L : List (ByteArray × Fi)) (D : DA) (x c : ByteArray) (hx : x.size ≤ maxLen) (hc : c.size ≤ maxLen) (w : World) (h : DK base w db mb L D) :
    Calls Tryd.prog 77 #[.pointer (some ⟨db, 0, none⟩), .string x, .string c] w (DTo base w db mb L (renameD D x c)) := by
  have HC := Lib.hid (dchange_any base db mb L D w h)
  have HX := Lib.hid (And.intro (fun e : (beginD D).2 ≠ 0 => renameD_ne (a := x) (c := c) e) (fun e : (beginD D).2 = 0 => renameD_zero (a := x) (c := c) e))
  have HOK := Lib.hid (renameD_ok h.ok x c)
  obtain ⟨r, hr⟩ : ∃ r, r = beginD D := ⟨_, rfl⟩
  rw [← hr] at HC HX
  obtain ⟨D1, z⟩ := r
  have HS := Lib.hid (And.intro hx hc)
  have HN := Lib.hid (fun w => isName_any c w (by unfold maxLen at hc; omega))
  clear hr hx hc h
  by_cases hz : z = 0
  · have q0 : (z != 0) = false := bneF hz
    have HY := Lib.hid (HX.out.2 hz)
    subst hz
    go_enter Tryd.func77, Tryd.ntmps77
    go_wp2_with fail
    refine HC.out.mono ?_
    rintro e w1 ⟨rfl, h1, hk1⟩
    have HD := Lib.hid (And.intro h1 hk1)
    clear h1 hk1
    cases hn : nameB c with
    | false =>
      rw [hn] at HN HY
      clear hn
      go_wp2_with fail
      refine (HN.out _).mono ?_
      rintro e w2 ⟨rfl, rfl⟩
      go_wp2
      go_ret
      rw [HY.out]
      exact BeganTo.to ⟨rfl, HD.out.1, HD.out.2⟩
    | true =>
      rw [hn] at HN HY
      clear hn
      have h1 := HD.out.1
      have c0 := h1.c.1
      have hl := (h1.look HS.out.1).2
      have hg1 := h1.get x
      go_wp2_with fail
      refine (HN.out _).mono ?_
      rintro e w2 ⟨rfl, rfl⟩
      cases hf : getM L x with
      | none =>
        rw [hf] at hg1
        have HE : Hid (renameD D x c = (D1, 7)) := Lib.hid (by
          rw [HY.out, if_neg (by decide)]
          unfold withF
          rw [← hg1]
          rfl)
        rw [lookF_none hf, ← hg1] at hl
        replace hl : (Instr.lookup 109 (.map (some mb)) (.string x) true).run Tryd.prog w1 = .ok (.tuple #[.agg #[.slice none 0 0, .int .i64 0], .bool false]) w1 := hl
        have HA := Lib.hid (h1.kept ((Kept.refl (fun _ => False) w1).alloc (.cells #[.slice none 0 0, .int .i64 0] 114)) (fun _ _ x => x))
        have HK := Lib.hid (HD.out.2.alloc (.cells #[.slice none 0 0, .int .i64 0] 114))
        clear hf hg1 h1
        go_wp2
        go_ret
        rw [HE.out]
        exact BeganTo.to ⟨rfl, HA.out, HK.out⟩
      | some f =>
        rw [hf] at hg1
        obtain ⟨a, cc, b, y⟩ := f
        rw [lookF_some hf, ← hg1] at hl
        have hgx : getM D1.L x = some ⟨b, y⟩ := hg1.symm
        simp only [Option.map_some, Option.isSome_some] at hl
        obtain ⟨n, hn⟩ : ∃ n, n = b.length := ⟨_, rfl⟩
        rw [← hn] at hl
        have HE : Hid (renameD D x c = ({ D1 with L := putS (delM D1.L x) c ⟨b, y⟩ }, 0)) := Lib.hid (by
          rw [HY.out, if_neg (by decide)]
          unfold withF
          rw [hgx])
        obtain ⟨q, hq⟩ : ∃ q, q = w1.heap.size := ⟨_, rfl⟩
        obtain ⟨wa, hwa⟩ : ∃ wa, wa = w1.alloc (.cells #[.slice a n cc, .int .i64 (y : Int)] 114) := ⟨_, rfl⟩
        have ka : Kept (fun _ => False) w1 wa := by rw [hwa]; exact (Kept.refl _ _).alloc _
        have BA : BoxAt wa q 114 #[.slice a n cc, .int .i64 (y : Int)] := by rw [hwa, hq]; exact BoxAt.new w1 _ _
        have ha := h1.kept ka (fun _ _ x => x)
        have hkw : Kept (fun k => k = db) w wa := HD.out.2.trans (ka.mono (fun _ _ x => x.elim))
        have HA := Lib.hid (And.intro ha hkw)
        have HW := Lib.hid (And.intro hwa hq)
        by_cases hxc : x = c
        · have q1 : (x.toList == c.toList) = true := toList_eqB hxc
          have HF : Hid (({ D1 with L := putS (delM D1.L x) c ⟨b, y⟩ } : DA) = D1) := Lib.hid (by
            rw [← hxc, rename_same ha.ok hgx])
          clear hf hg1 h1 hgx ka BA ha hkw hn hwa hq hxc
          go_wp2
          go_ret
          rw [HE.out, HF.out, ← HW.out.1]
          exact BeganTo.to ⟨rfl, HA.out.1, HA.out.2⟩
        · have q1 : (x.toList == c.toList) = false := toList_ne hxc
          have HRM := Lib.hid (dremove_any base db mb L D1 c HS.out.2 wa ha)
          have qlt : ∀ k, foot db mb L k → k ≠ q := fun k e => by have := (h1.lt e).1; omega
          have HF := Lib.hid (And.intro (And.intro hf hgx) (And.intro hxc (And.intro BA qlt)))
          have HN' := Lib.hid hn
          clear hf hg1 h1 hgx ka BA ha hkw hn hwa hq hxc qlt
          go_upto_region 7 with fail
          rw [← HW.out.1, ← HW.out.2]
          go_wp2_with fail
          refine HRM.out.mono ?_
          rintro e w2 ⟨rfl, h2, k2, ft2⟩
          have H2 := Lib.hid (And.intro h2 (And.intro k2 ft2))
          have c20 := h2.c.1
          have BA2 : BoxAt w2 q 114 #[.slice a n cc, .int .i64 (y : Int)] := HF.out.2.2.1.kept k2 (fun e => HF.out.2.2.2 q e rfl)
          obtain ⟨w3, hd3, hm3, hk3⟩ := h2.map.delete Tryd.underlying9 Tryd.underlying109 HS.out.1 0
          have BA3 := BA2.kept hk3 (fun e => by
            have := HF.out.2.2.2 mb (.inr (.inl rfl))
            exact this e.symm)
          have c30 : w3.cell? ⟨db, 0, none⟩ = some (.map (some mb)) := (h2.box.kept hk3 h2.ne).cell rfl
          have q30 : w3.cell? ⟨q, 0, none⟩ = some (.slice a n cc) := BA3.cell rfl
          have q31 : w3.cell? ⟨q, 1, none⟩ = some (.int .i64 (y : Int)) := BA3.cell rfl
          obtain ⟨w4, hu4, hm4, hk4⟩ := (hm3.kept ((Kept.refl (fun _ => False) w3).drew) (fun x => x)).update Tryd.underlying9 Tryd.underlying109 HS.out.2 (⟨a, cc, b, y⟩ : Fi).val (by
            have h5 := h2.ok.count
            have h6 := h2.len
            have h7 := List.length_filter_le (fun p => decide (p.1 ≠ x)) (mapM Fi.val (delM L c))
            unfold delM maxLen
            unfold delM at h6 h7
            unfold mapM at h7 ⊢
            rw [List.length_map] at h7
            simp only at h5 h6
            unfold delM at h5
            omega)
          have HR := Lib.hid (show DK base w4 db mb (setM (delM (delM L c) x) c ⟨a, cc, b, y⟩) { D1 with L := putS (delM D1.L x) c ⟨b, y⟩ } ∧ Kept (foot db mb (delM L c)) w2 w4 ∧ Foot w2 db mb (delM L c) (setM (delM (delM L c) x) c ⟨a, cc, b, y⟩) from by
            refine h2.moved (by rw [getM_del, if_neg (Ne.symm HF.out.2.1)]; exact HF.out.1.1) (by have := HOK.out; rw [HE.out] at this; exact this) ?_ ?_ hm4 ((hk3.drew).trans hk4)
            · exact (rename_two HA.out.1.ok x c ⟨b, y⟩).symm
            · have e := rename_used HA.out.1.ok HF.out.2.1 HF.out.1.2
              have hb := ((h2.box.kept hk3 h2.ne).kept ((Kept.refl (fun _ => False) w3).drew) (fun x => x)).kept hk4 h2.ne
              unfold boxD at hb ⊢
              simp only at hb
              simp only [e]
              exact hb)
          replace hu4 : (Instr.mapUpdate 109 (.map (some mb)) (.string c) (.agg #[.slice a n cc, .int .i64 (y : Int)])).run Tryd.prog w3.drew = .ok () w4 := by
            unfold Fi.val at hu4
            simp only [← HN'.out] at hu4
            exact hu4
          clear h2 k2 ft2 BA2 BA3 hm3 hk3 hm4 hk4
          go_upto_region 12 with fail
          go_region
          go_wp2
          go_ret
          rw [HE.out]
          refine DTo.behind HA.out.2 ⟨_, rfl, HR.out.1, ?_, fun k e => ?_⟩
          · refine H2.out.2.1.trans (HR.out.2.1.step (S' := fun _ => False) (Kept.refl _ _) (fun _ _ x => x.elim) |>.mono (fun k _ e => ?_))
            rcases e with e | e | ⟨p, hp, e⟩
            · exact .inl e
            · exact .inr (.inl e)
            · exact .inr (.inr ⟨p, (delM_mem hp).1, e⟩)
          · rcases HR.out.2.2 k e with e | e
            · exact H2.out.2.2 k e
            · exact .inr (Nat.le_trans H2.out.2.1.size e)
  · have q0 : (z != 0) = true := bneT hz
    have HY := Lib.hid (HX.out.1 hz)
    clear hz
    go_enter Tryd.func77, Tryd.ntmps77
    go_wp2_with fail
    refine HC.out.mono ?_
    rintro e w1 ⟨rfl, h1, hk1⟩
    have HD := Lib.hid (And.intro h1 hk1)
    clear h1 hk1
    go_wp2
    go_ret
    rw [HY.out]
    exact BeganTo.to ⟨rfl, HD.out.1, HD.out.2⟩
end Go.Proofs.YtficodklidaheaaDoor
/- Layer 19 plainly: a disk of one file, whose bytes are frames one behind the other. -/
namespace Go.Proofs.YtficodklidaheaaDoor
open Go.RowKit

theorem putS_one {α : Type} (s : ByteArray) (f g : α) : putS [(s, f)] s g = [(s, g)] := by simp [putS, ltN_irrefl]
theorem putS_nil {α : Type} (s : ByteArray) (g : α) : putS [] s g = [(s, g)] := rfl
theorem getM_one {α : Type} (s : ByteArray) (f : α) : getM [(s, f)] s = some f := by simp [getM]
/-- A disk that won't fail. -/
structure Calm (D : DA) : Prop where
  down : D.down = false
  fail : D.failIn = -1
  crash : D.crashIn = -1
theorem Calm.begin {D : DA} (h : Calm D) : beginD D = (countedD D, 0) := by
  unfold beginD
  rw [h.down, h.crash, h.fail]
  rfl
theorem Calm.counted {D : DA} (h : Calm D) : Calm (countedD D) := ⟨h.down, by unfold countedD; rw [h.fail]; rfl, by unfold countedD; rw [h.crash]; rfl⟩
theorem Calm.behind {D : DA} (h : Calm D) (f : DA → DA × Int) : behindD D f = f (countedD D) := by unfold behindD; rw [h.begin]; rfl
/-- What a call's beginning leaves, if no call is to fail. -/
theorem beginD_one {D : DA} (hf : D.failIn = -1) : ((beginD D).2 = 0 ∨ (beginD D).2 = 13) ∧ (beginD D).1.L = D.L ∧ (beginD D).1.cap = D.cap ∧ (beginD D).1.failIn = -1 ∧ ((beginD D).2 = 13 → (beginD D).1.down = true) := by
  unfold beginD
  by_cases h1 : D.down = true
  · rw [if_pos h1]; exact ⟨.inr rfl, rfl, rfl, hf, fun _ => h1⟩
  rw [if_neg h1]
  have e1 : (countedD D).failIn = -1 := by unfold countedD; rw [hf]; rfl
  by_cases h2 : D.crashIn = 0
  · rw [if_pos h2]; exact ⟨.inr rfl, rfl, rfl, e1, fun _ => rfl⟩
  rw [if_neg h2, if_neg (by omega)]
  exact ⟨.inl rfl, rfl, rfl, e1, fun h => by cases h⟩
theorem behind_one {D : DA} (hf : D.failIn = -1) (f : DA → DA × Int) : (behindD D f = f (beginD D).1 ∧ (beginD D).2 = 0) ∨ (behindD D f = beginD D ∧ (beginD D).2 = 13) := by
  unfold behindD
  rcases (beginD_one hf).1 with h | h
  · exact .inl ⟨if_pos h, h⟩
  · exact .inr ⟨if_neg (by omega), h⟩
theorem append_one {D : DA} {s : ByteArray} {f : PF} (h : D.L = [(s, f)]) (hf : D.failIn = -1) (b : List Nat) :
    (((appendD D s b).2 = 0 ∧ (appendD D s b).1.L = [(s, ⟨f.b ++ b, f.s⟩)]) ∨ (((appendD D s b).2 = 12 ∨ (appendD D s b).2 = 13) ∧ (appendD D s b).1.L = [(s, f)])) ∧ (appendD D s b).1.failIn = -1 ∧ (appendD D s b).1.cap = D.cap := by
  obtain ⟨_, h2, h3, h4, _⟩ := beginD_one hf
  unfold appendD
  rcases behind_one hf (withF s fun f D => if D.cap - usedL D.L < (b.length : Int) then (D, 12) else ({ D with L := putS D.L s ⟨f.b ++ b, f.s⟩ }, 0)) with ⟨e, _⟩ | ⟨e, e2⟩
  · rw [e]
    unfold withF
    rw [h2, h, getM_one]
    dsimp only
    split
    · exact ⟨.inr ⟨.inl rfl, by rw [h2, h]⟩, h4, h3⟩
    · exact ⟨.inl ⟨rfl, by dsimp only; rw [h2, h, putS_one]⟩, h4, h3⟩
  · rw [e]
    exact ⟨.inr ⟨.inr e2, by rw [h2, h]⟩, h4, h3⟩
theorem sync_one {D : DA} {s : ByteArray} {f : PF} (h : D.L = [(s, f)]) (hf : D.failIn = -1) :
    (((syncD D s).2 = 0 ∧ (syncD D s).1.L = [(s, ⟨f.b, f.b.length⟩)]) ∨ ((syncD D s).2 = 13 ∧ (syncD D s).1.L = [(s, f)])) ∧ (syncD D s).1.failIn = -1 ∧ (syncD D s).1.cap = D.cap := by
  obtain ⟨_, h2, h3, h4, _⟩ := beginD_one hf
  unfold syncD
  rcases behind_one hf (withF s fun f D => ({ D with L := putS D.L s ⟨f.b, f.b.length⟩ }, 0)) with ⟨e, _⟩ | ⟨e, e2⟩
  · rw [e]
    unfold withF
    rw [h2, h, getM_one]
    exact ⟨.inl ⟨rfl, by dsimp only; rw [h2, h, putS_one]⟩, h4, h3⟩
  · rw [e]
    exact ⟨.inr ⟨e2, by rw [h2, h]⟩, h4, h3⟩
theorem append_calm {D : DA} {s : ByteArray} {f : PF} (h : D.L = [(s, f)]) (hc : Calm D) (b : List Nat) :
    (D.cap - f.b.length < (b.length : Int) ∧ (appendD D s b).2 = 12 ∧ (appendD D s b).1.L = [(s, f)] ∧ Calm (appendD D s b).1) ∨ (appendD D s b).2 = 0 ∧ (appendD D s b).1.L = [(s, ⟨f.b ++ b, f.s⟩)] ∧ Calm (appendD D s b).1 := by
  unfold appendD
  rw [hc.behind]
  unfold withF
  have e1 : (countedD D).L = D.L := rfl
  rw [e1, h, getM_one]
  have e2 : usedL [(s, f)] = f.b.length := by simp [usedL]
  dsimp only
  rw [e1, h, e2]
  have e3 : (countedD D).cap = D.cap := rfl
  rw [e3]
  by_cases hs : D.cap - (f.b.length : Int) < (b.length : Int)
  · rw [if_pos hs]
    exact .inl ⟨hs, rfl, by rw [e1, h], hc.counted⟩
  · rw [if_neg hs]
    exact .inr ⟨rfl, by dsimp only; rw [putS_one], ⟨hc.counted.down, hc.counted.fail, hc.counted.crash⟩⟩
theorem cut_calm {D : DA} {s : ByteArray} {f : PF} (h : D.L = [(s, f)]) (hc : Calm D) {n : Nat} (hn : n ≤ f.b.length) :
    (cutD D s n).2 = 0 ∧ (cutD D s n).1.L = [(s, cutF f n)] ∧ Calm (cutD D s n).1 ∧ (cutD D s n).1.cap = D.cap := by
  unfold cutD
  rw [hc.behind]
  unfold withF
  have e1 : (countedD D).L = D.L := rfl
  rw [e1, h, getM_one]
  dsimp only
  rw [if_neg (by omega), e1, h, putS_one]
  exact ⟨rfl, by rw [Int.toNat_natCast], ⟨hc.counted.down, hc.counted.fail, hc.counted.crash⟩, rfl⟩
theorem create_calm {D : DA} {s : ByteArray} (h : D.L = []) (hc : Calm D) (hn : nameB s = true) :
    (createD D s).2 = 0 ∧ (createD D s).1.L = [(s, ⟨[], 0⟩)] ∧ Calm (createD D s).1 ∧ (createD D s).1.cap = D.cap := by
  unfold createD
  rw [hc.behind]
  unfold createF
  have e1 : (countedD D).L = D.L := rfl
  rw [hn, e1, h]
  exact ⟨rfl, rfl, ⟨hc.counted.down, hc.counted.fail, hc.counted.crash⟩, rfl⟩
theorem create_bad {D : DA} {s : ByteArray} (hc : Calm D) (hn : nameB s = false) : createD D s = (countedD D, 3) := by
  unfold createD
  rw [hc.behind]
  unfold createF
  rw [hn]
  rfl
theorem boot_one {D : DA} {s : ByteArray} {f : PF} (h : D.L = [(s, f)]) (hd : D.down = true) (keep : List Int) :
    (bootD D keep).2 = 0 ∧ (bootD D keep).1.L = [(s, bootF (keep.headD 0) f)] ∧ Calm (bootD D keep).1 ∧ (bootD D keep).1.cap = D.cap := by
  unfold bootD
  rw [if_pos hd]
  exact ⟨rfl, by dsimp only; rw [h]; rfl, ⟨rfl, rfl, rfl⟩, rfl⟩
/-- How many bytes the first records have, framed. -/
def enL (Ls : List (List Nat)) (m : Nat) : Nat := (allL (Ls.take m)).length
theorem enL_mono (Ls : List (List Nat)) {a b : Nat} (h : a ≤ b) : enL Ls a ≤ enL Ls b := by
  unfold enL
  have : Ls.take b = Ls.take a ++ (Ls.take b).drop a := by
    conv => lhs; rw [← List.take_append_drop a (Ls.take b)]
    rw [List.take_take, Nat.min_eq_left h]
  rw [this, allL_append, List.length_append]
  omega
theorem enL_all (Ls : List (List Nat)) : enL Ls Ls.length = (allL Ls).length := by unfold enL; rw [List.take_length]
/-- The greatest number of frames within so many bytes. -/
theorem enL_cut (Ls : List (List Nat)) (k : Nat) : ∃ m, m ≤ Ls.length ∧ enL Ls m ≤ k ∧ ∀ q, q ≤ Ls.length → m < q → k < enL Ls q := by
  have key : ∀ n, n ≤ Ls.length → ∃ m, m ≤ n ∧ enL Ls m ≤ k ∧ ∀ q, q ≤ n → m < q → k < enL Ls q := by
    intro n
    induction n with
    | zero => intro _; exact ⟨0, Nat.le_refl _, by simp [enL, allL], fun q h1 h2 => by omega⟩
    | succ n ih =>
      intro hn
      by_cases h : enL Ls (n + 1) ≤ k
      · exact ⟨n + 1, Nat.le_refl _, h, fun q h1 h2 => by omega⟩
      · obtain ⟨m, h1, h2, h3⟩ := ih (by omega)
        refine ⟨m, by omega, h2, fun q hq hm => ?_⟩
        by_cases e : q = n + 1
        · rw [e]; omega
        · exact h3 q (by omega) hm
  exact key _ (Nat.le_refl _)
/-- What is read of frames that were cut off: all that lie whole within. -/
theorem wal_cut (Ls : List (List Nat)) (hl : ∀ l ∈ Ls, l.length ≤ 65536) {k sure : Nat} (hk : k ≤ (allL Ls).length) (hs : sure ≤ Ls.length) (hs2 : enL Ls sure ≤ k) :
    ∃ m e, m ≤ Ls.length ∧ sure ≤ m ∧ ScanR ((allL Ls).take k) (Ls.take m) (enL Ls m) e ∧ (e = 0 ∨ e = 2) ∧ enL Ls m ≤ k := by
  obtain ⟨m, h1, h2, h3⟩ := enL_cut Ls k
  obtain ⟨e, h4, h5⟩ := scan_cut Ls hl k m h1 h2 hk h3
  refine ⟨m, e, h1, ?_, h4, h5.imp (·.1) (·.1), h2⟩
  rcases Nat.lt_or_ge m sure with h | h
  · have := h3 sure hs h; omega
  · exact h
theorem scan_all (Ls : List (List Nat)) (hl : ∀ l ∈ Ls, l.length ≤ 65536) : ScanR (allL Ls) Ls (allL Ls).length 0 := by
  have := scan_frames Ls hl [] [] 0 0 .done
  simpa using this
end Go.Proofs.YtficodklidaheaaDoor
/- Rows of bytes that are owned, as rows. -/
namespace Go.Proofs.YtficodklidaheaaDoor
open Go.RowKit

theorem own_RowsAt {w : World} {B C : Nat} {v : Value} {vs : List Value} {Ls : List (List Nat)} (hb : ∀ l ∈ Ls, ∀ x ∈ l, x < 256) (ho : w.ownsRow B 22 1 v vs.length vs) (hr : Rows8 w C vs Ls) : RowsAt w v Ls := by
  have hl := hr.length
  obtain ⟨ao, c, rfl⟩ := ownsRow_slice ho
  rw [hl]
  refine ⟨ao, c, rfl, fun i hi => ?_⟩
  obtain ⟨u, hu, h8⟩ := hr.at_ i hi
  obtain ⟨g, cap, hv, _, _⟩ := own_at ho (by omega)
  injection hv with h1 h2 h3
  subst h1
  have hc := ho.cells (g := g) rfl i u hu
  obtain ⟨ai, ci, rfl⟩ := ownsRow_slice h8
  exact ⟨_, ai, ci, rfl, hc, row8_own (hb _ (by rw [List.getD_eq_getElem?_getD, List.getElem?_eq_getElem hi]; simp)) h8⟩
end Go.Proofs.YtficodklidaheaaDoor
