/- Texts put together: S8, G2, G3. -/
import Derived.Test.YtficodklidaheaaDoorZz7
import Derived.OrdersHeld
import Derived.StillTail
import Derived.Deep.RegionHeld3
/- Layer 18: append onto a file's bytes; Append. -/
namespace Go.Proofs.YtficodklidaheaaDoor
open Go.RowKit
attribute [local go_sem ↓] Go.wp_at_zero Go.wp_at_succ

theorem OwnB.ofOwn {base : Nat} {w : World} {a : Option Addr} {n c : Nat} {b : List Nat} (hb : b.length = n) (h : w.ownsRow base 5 1 (.slice a n c) n (byV b)) (s : Nat) : OwnB base w ⟨a, c, b, s⟩ := by
  rcases h.2 with ⟨e, h0⟩ | ⟨g, cap, cur, e, h1, h2, h3, h4, h5, h6⟩
  · injection e with e1 e2 e3
    exact .inl ⟨e1, List.eq_nil_of_length_eq_zero (show b.length = 0 by omega), e3⟩
  · injection e with e1 e2 e3
    refine .inr ⟨g, cur, e1, h1, h2, by simp only; omega, by simp only; omega, by simp only; omega, ?_⟩
    simp only
    rw [hb, ← h6, Nat.mul_one]
theorem OwnB.append {base : Nat} {w : World} {f : Fi} (h : OwnB base w f) {tx : TypeId} {x : Value} {m : Nat} {bs : List Nat} (hs : Src Tryd.prog 1 tx x m (byV bs) w) (hm : bs.length = m) (hlen : f.b.length + m ≤ 1000000000) (hbase : base ≤ w.heap.size) (ty : TypeId) :
    ∃ a' c' w', (Builtin.append_ #[22, tx] ty #[.slice f.a f.b.length f.c, x]).run Tryd.prog w = .ok (.slice a' (f.b.length + m) c') w' ∧ (∀ s, OwnB base w' ⟨a', c', f.b ++ bs, s⟩) ∧ Kept (fun k => f.v.ownBlock = some k) w w' ∧
      ∀ k, (Value.slice a' (f.b.length + m) c').ownBlock = some k → f.v.ownBlock = some k ∨ w.heap.size ≤ k := by
  obtain ⟨iI, hiI, hzI0, hzI1, hzI2⟩ := info_parts Tryd.infoU8
  rcases h with ⟨h1, h2, h3⟩ | ⟨g, cur, h1, h2, h3, h4, h5, h6, h7⟩
  · obtain ⟨v', w', r1, r2, r3, r4, r5⟩ := run_append_own_src (P := Tryd.prog) w base 22 tx ty 5 iI (.int .u8 0) 1 1 Tryd.underlying22 hiI hzI0 hzI1 hzI2 rfl (.slice none 0 0) 0 [] (World.ownsRow_nil w base 5 1) x m (byV bs) hs (by unfold maxLen; omega) (by omega) hbase
    obtain ⟨a', c', rfl⟩ := ownsRow_slice r2
    rw [h1, h2, h3]
    rw [Nat.zero_add] at r1 r2
    refine ⟨a', c', w', by simpa using r1, fun s => OwnB.ofOwn (n := m) hm (by simpa using r2) s, (Kept.refl _ w).grown r3 (fun k e _ => by cases e), fun k e => ?_⟩
    replace e : (Value.slice a' (0 + m) c').ownBlock = some k := by cases a' <;> exact e
    rcases r5 with r5 | r5
    · have := r5.symm.trans e
      cases this
    · have := r5.symm.trans e
      injection this with this
      exact .inr (by omega)
  · have e0 : f.v.ownBlock = some g := by unfold Fi.v; rw [h1]; rfl
    rw [h1]
    by_cases hroom : f.b.length + m ≤ f.c
    · have hfit : f.b.length * iI.size + (byV bs).length ≤ cur.size := by rw [hzI1, byV_length]; omega
      have hr := run_append_room_any (P := Tryd.prog) w 22 tx ty 5 iI Tryd.underlying22 hiI g f.b.length f.c cur h3 x m (byV bs) (by rw [hzI1]; exact hs) hroom hfit
      refine ⟨_, _, _, hr, fun s => .inr ⟨g, _, rfl, h2, setRow_heap w g cur _ 5 _ h3, ?_, ?_, h6, ?_⟩, ⟨rfl, rfl, rfl, by simp, fun k _ hk => setRow_other w g k _ (fun e => hk (by rw [e0, e]))⟩, fun k e => .inl (by rw [e0]; exact e)⟩
      · simp only [List.length_append]; omega
      · simp only [List.size_toArray, List.length_append, List.length_take, List.length_drop, Array.length_toList, byV_length]
        omega
      · simp only [hzI1, Nat.mul_one]
        rw [h7]
        have e1 : (f.b ++ bs).length = (byV f.b ++ byV bs).length := by rw [← byV_append, byV_length]
        rw [e1, List.take_left, byV_append]
    · have holds : ∀ j u, (byV f.b)[j]? = some u → w.cell? ((⟨g, 0, none⟩ : Addr).add j) = some u := fun j u hu => by
        rw [addr_add0, cell_of_row _ _ j _ _ _ h3]
        rw [← h7, List.getElem?_take] at hu
        split at hu
        · rw [← Array.getElem?_toList]; exact hu
        · cases hu
      have hold : (Builtin.firstCells iI.size f.b.length (.slice (some ⟨g, 0, none⟩) f.b.length f.c)).run Tryd.prog w.drew = .ok (byV f.b).toArray w.drew :=
        run_firstCells_some w.drew iI.size f.b.length ⟨g, 0, none⟩ f.b.length f.c (byV f.b) (by rw [hzI1, byV_length]; omega) (by simpa using holds)
      have hr := run_append_grow_src (P := Tryd.prog) w 22 tx ty 5 iI (.int .u8 0) Tryd.underlying22 hiI hzI0 (some ⟨g, 0, none⟩) f.b.length f.c (byV f.b) hold x m (byV bs) (by rw [hzI1]; exact hs) (by omega) (by omega) (growslice_fits (by omega) (by rw [hzI2]; omega))
      have hge := grownCap_ge w (f.b.length + m) f.c 5
      have hcm : grownCap w (f.b.length + m) f.c 5 ≤ maxLen := grownCap_le_maxLen w (f.b.length + m) f.c 5 (by unfold maxLen; omega)
      have e1 : (byV f.b ++ byV bs).length = f.b.length + m := by rw [← byV_append, byV_length, List.length_append, hm]
      refine ⟨_, _, _, hr, fun s => .inr ⟨w.heap.size, _, rfl, hbase, heap_alloc_new w.drew _, by simp only [List.length_append]; omega, ?_, hcm, ?_⟩, ⟨rfl, rfl, rfl, by simp, fun k hk _ => Below.heap_alloc w.drew _ k hk⟩, fun k e => ?_⟩
      · simp only [Array.size_append, List.size_toArray, size_zeroCells, e1]
        have : (Value.int IntKind.u8 0).cells.size = 1 := rfl
        rw [this]
        omega
      · simp only
        have e2 : (f.b ++ bs).length = (byV f.b ++ byV bs).length := by rw [← byV_append, byV_length]
        rw [e2, Array.toList_append]
        rw [byV_append]
        exact List.take_left
      · simp only [Value.ownBlock, Option.some.injEq] at e
        exact .inr (by omega)
theorem step_append_run {P : Program} {ops : Array Oper} {o : Oper} {a : Act} {K : Act → World → Prop} {Q : Exit → Act → World → Prop} {E : Prop} {w : World} (hgd : o.guard = none) (s x : Operand) (t tx : TypeId)
    (ho : o.op = .call { callee := .builtin .append, args := #[s, x], argTypes := #[t, tx] }) (v y : Value) (hs : a.eval s = v) (hx : a.eval x = y) {v' : Value} {w' : World}
    (hr : (Builtin.append_ #[t, tx] o.type #[v, y]).run P w = .ok v' w') (h : K (a.put o.dst v') w') : if Region.wanted o (yielded ops a.tmps) = true then Oper.wp P o a w K Q else E := by
  have hw : Region.wanted o (yielded ops a.tmps) = true := by simp [Region.wanted, hgd]
  rw [if_pos hw]
  unfold Oper.wp execOp
  simp only [ho, resolve, invoke, builtin, Sem.run_bind, Sem.run_pure, Result.andThen_ok, List.map_toArray, List.map_cons, List.map_nil, hs, hx, hr]
  exact h
theorem slAt_kept8 {S : Nat → Prop} {w w' : World} {a : Option Addr} {n c : Nat} {xs : List Value} (h : SlAt w (.slice a n c) xs) (hk : Kept S w w') (hn : xs ≠ [] → ∀ k, (Value.slice a n c).ownBlock = some k → ¬ S k) : SlAt w' (.slice a n c) xs := by
  by_cases e : xs = []
  · subst e
    obtain ⟨ao, c', e1, _, _⟩ := h.val
    exact ⟨ao, c', e1, fun _ => rfl, fun _ _ j u hu => by simp at hu⟩
  · exact h.kept hk (hn e)
set_option maxRecDepth 100000 in
set_option maxHeartbeats 4000000 in
theorem dAppend_any (base db mb : Nat) (L : List (ByteArray × Fi)) (D : DA) (s : ByteArray) (hs : s.size ≤ maxLen) (a2 : Option Addr) (n2 c2 : Nat) (bs : List Nat) (hbs : bs.length = n2) (hlt : ∀ x ∈ bs, x < 256) (hl2 : n2 ≤ 100000000) (w : World) (h : DK base w db mb L D)
    (hsrc : SlAt w (.slice a2 n2 c2) (byV bs)) (hne : byV bs ≠ [] → ∀ j, (Value.slice a2 n2 c2).ownBlock = some j → j ≠ db) :
    Calls Tryd.prog 69 #[.pointer (some ⟨db, 0, none⟩), .string s, .slice a2 n2 c2] w (DTo base w db mb L (appendD D s bs)) := by
  have HC := Lib.hid (dchangeOf_any base db mb L D s hs w h)
  have HX := Lib.hid (And.intro (fun e : (beginOf D s).2 = 0 => beginOf_zero e) (fun e : (beginOf D s).2 ≠ 0 => beginOf_ne e))
  have hok := appendD_ok h.ok s hlt
  unfold appendD at hok ⊢
  obtain ⟨g, hg⟩ : ∃ g : PF → DA → DA × Int, g = fun f D => if D.cap - usedL D.L < (bs.length : Int) then (D, 12) else ({ D with L := putS D.L s ⟨f.b ++ bs, f.s⟩ }, 0) := ⟨_, rfl⟩
  rw [← hg] at hok ⊢
  have HG := Lib.hid (And.intro hg hok)
  obtain ⟨r, hr⟩ : ∃ r, r = beginOf D s := ⟨_, rfl⟩
  rw [← hr] at HC HX
  obtain ⟨D1, z⟩ := r
  have HS := Lib.hid (And.intro hs (And.intro hbs hl2))
  have HSRC := Lib.hid (And.intro hsrc hne)
  have HH0 := Lib.hid h
  clear hr hs h hg hok hbs hlt hl2 hsrc hne
  go_enter Tryd.func69, Tryd.ntmps69
  go_wp2_with fail
  refine HC.out.mono ?_
  rintro e w1 ⟨rfl, h1, hk1⟩
  have HD := Lib.hid (And.intro h1 hk1)
  clear h1 hk1
  by_cases hz : z = 0
  · have q0 : (z != 0) = false := bneF hz
    obtain ⟨p, hp, hgp⟩ := HX.out.1 hz
    have hy := hgp g
    have hok := HG.out.2
    rw [hy, HG.out.1] at hok
    have HY := Lib.hid (And.intro hy hok)
    subst hz
    have h1 := HD.out.1
    have hg1 := h1.get s
    rw [hp] at hg1
    cases hf : getM L s with
    | none => rw [hf] at hg1; cases hg1
    | some f =>
      obtain ⟨a, c, b, y⟩ := f
      have hpb : p = ⟨b, y⟩ := by
        rw [hf] at hg1
        simp only [Option.map_some, Fi.t, Option.some.injEq] at hg1
        exact hg1.symm
      have HPB := Lib.hid hpb
      obtain ⟨_, c1, c2', _⟩ := h1.c
      obtain ⟨u, hu0⟩ : ∃ u, u = usedL D1.L := ⟨_, rfl⟩
      have hcap := h1.ok.capR
      have hus := h1.ok.used
      rw [← hu0] at c2' hus
      have hsm := h1.bytes_small hf
      have hub : b.length ≤ u := by
        have h3 := usedL_del h1.ok.asc.pair s
        rw [hp, hpb] at h3
        simp only [szM] at h3
        omega
      have HU := Lib.hid hu0
      have HF := Lib.hid hf
      obtain ⟨cp, hcp⟩ : ∃ cp, cp = D1.cap := ⟨_, rfl⟩
      rw [← hcp] at c1 hcap hus
      have HCP := Lib.hid hcp
      by_cases hsp : cp - (u : Int) < (n2 : Int)
      · have HE : Hid (behindD D (withF s g) = (D1, 12)) := Lib.hid (by
          rw [HY.out.1, HG.out.1]
          show (if D1.cap - usedL D1.L < (bs.length : Int) then _ else _) = _
          rw [if_pos (by have := HU.out; have := HCP.out; have := HS.out.2.1; omega)])
        clear hp hgp hy hok h1 hg1 hf hpb hu0 hsm hub hcp
        go_upto_region 4 with fail
        go_region
        go_wp2
        go_ret
        rw [HE.out]
        exact BeganTo.to ⟨rfl, HD.out.1.kept ((Kept.refl (fun _ => False) _).drew) (fun _ _ x => x), HD.out.2.drew⟩
      · have HE : Hid (behindD D (withF s g) = ({ D1 with L := putS D1.L s ⟨b ++ bs, y⟩ }, 0) ∧ DOk { D1 with L := putS D1.L s ⟨b ++ bs, y⟩ }) := Lib.hid (by
          have e := HY.out.1
          rw [HG.out.1] at e
          have e' : (if D1.cap - usedL D1.L < (bs.length : Int) then (D1, (12 : Int)) else ({ D1 with L := putS D1.L s ⟨p.b ++ bs, p.s⟩ }, 0)) = ({ D1 with L := putS D1.L s ⟨b ++ bs, y⟩ }, 0) := by
            rw [if_neg (by have := HU.out; have := HCP.out; have := HS.out.2.1; omega), HPB.out]
          refine ⟨by rw [HG.out.1]; exact e.trans e', ?_⟩
          have hh := congrArg Prod.fst e'
          simp only at hh
          rw [← hh]
          exact HY.out.2)
        clear hp hgp hy hok hg1 hpb hu0 hcp
        go_upto_region 4 with fail
        go_region
        obtain ⟨wd, hwd⟩ : ∃ wd, wd = w1.drew := ⟨_, rfl⟩
        rw [← hwd]
        have kd : Kept (fun _ => False) w1 wd := by rw [hwd]; exact (Kept.refl _ _).drew
        have hd := h1.kept kd (fun _ _ x => x)
        have HKD := Lib.hid kd
        have hl := (hd.look HS.out.1).1
        rw [lookF_some hf] at hl
        simp only at hl
        obtain ⟨n, hn⟩ : ∃ n, n = b.length := ⟨_, rfl⟩
        rw [← hn] at hl
        obtain ⟨q, hq⟩ : ∃ q, q = wd.heap.size := ⟨_, rfl⟩
        obtain ⟨wa, hwa⟩ : ∃ wa, wa = wd.alloc (.cells #[.slice a n c, .int .i64 (y : Int)] 114) := ⟨_, rfl⟩
        have ka : Kept (fun _ => False) wd wa := by rw [hwa]; exact (Kept.refl _ _).alloc _
        have BA : BoxAt wa q 114 #[.slice a n c, .int .i64 (y : Int)] := by rw [hwa, hq]; exact BoxAt.new wd _ _
        have kad : Kept (fun _ => False) wd wa.drew := ka.drew
        have ha := hd.kept kad (fun _ _ x => x)
        have hkw : Kept (fun k => k = db) w wa.drew := HD.out.2.trans ((kd.trans kad).mono (fun _ _ x => x.elim))
        have hsrc : SlAt wa.drew (.slice a2 n2 c2) (byV bs) := slAt_kept8 HSRC.out.1 hkw (fun h0 j e x => HSRC.out.2 h0 j e x)
        have hown : OwnB base wa.drew ⟨a, c, b, y⟩ := ha.data _ (getM_mem hf)
        have hsr := hsrc.src Tryd.underlying22 (byV_one bs)
        rw [byV_length, HS.out.2.1] at hsr
        obtain ⟨a4, c4, w4, hap, ho4, hk4, hb4⟩ := hown.append hsr HS.out.2.1 (by have := hsm.1; have := HS.out.2.2; simp only at *; omega) (Nat.le_of_lt (Nat.lt_of_le_of_lt ha.base.1 ha.box.lt)) 22
        have hnb : ∀ k, (⟨a, c, b, y⟩ : Fi).v.ownBlock = some k → k ≠ db ∧ k ≠ mb ∧ k ≠ q := fun k e => by
          obtain ⟨n1, n2⟩ := ha.noBox (getM_mem hf) e
          refine ⟨n1, n2, fun x => ?_⟩
          have h5 := (hd.lt (.inr (.inr ⟨_, getM_mem hf, e⟩))).1
          omega
        have b4 : BoxAt w4 db 111 (boxD mb D1) := ha.box.kept hk4 (fun e => (hnb db e).1 rfl)
        have m4 := ha.map.kept hk4 (fun e => (hnb mb e).2.1 rfl)
        have q4 : BoxAt w4 q 114 #[.slice a n c, .int .i64 (y : Int)] := (BA.kept ((Kept.refl (fun _ => False) wa).drew) (fun x => x)).kept hk4 (fun e => (hnb q e).2.2 rfl)
        obtain ⟨N, hN⟩ : ∃ N, N = n + n2 := ⟨_, rfl⟩
        rw [← hn, ← hN] at hap hb4
        have hNl : N = (b ++ bs).length := by rw [List.length_append, hN, hn, HS.out.2.1]
        obtain ⟨w5, hu5, hm5, hk5⟩ := m4.update Tryd.underlying9 Tryd.underlying109 HS.out.1 (⟨a4, c4, b ++ bs, y⟩ : Fi).val (by have := ha.ok.count; have := ha.len; unfold mapM maxLen; rw [List.length_map]; omega)
        replace hu5 : (Instr.mapUpdate 109 (.map (some mb)) (.string s) (.agg #[.slice a4 N c4, .int .i64 (y : Int)])).run Tryd.prog w4 = .ok () w5 := by
          unfold Fi.val at hu5
          simp only [← hNl] at hu5
          exact hu5
        have b5 := b4.kept hk5 ha.ne
        have k6 : Kept (fun k => k = db) w5 (w5.setCell ⟨db, 2, none⟩ (.int .i64 ((u : Int) + (n2 : Int)))) := kept_set w5 db 2 _
        have HR := Lib.hid (show DTo base w db mb L ({ D1 with L := putS D1.L s ⟨b ++ bs, y⟩ }, 0) (.returned (.int .i64 0)) (w5.setCell ⟨db, 2, none⟩ (.int .i64 ((u : Int) + (n2 : Int)))) from by
          have hnb5 : ∀ k, (⟨a4, c4, b ++ bs, y⟩ : Fi).v.ownBlock = some k → k ≠ mb ∧ k ≠ db := fun k e => by
            unfold Fi.v at e
            simp only [← hNl] at e
            obtain ⟨cur, h6, _⟩ := (ho4 y).block (j := k) (by unfold Fi.v; simp only [← hNl]; exact e)
            refine ⟨m4.notCells h6, fun x => ?_⟩
            have b4' := b4
            unfold BoxAt at b4'
            rw [x, b4'] at h6
            injection h6 with h6
            injection h6 with _ h6
            exact absurd h6 (by decide)
          have hput := ha.put (s := s) (f := ⟨a4, c4, b ++ bs, y⟩) (D' := { D1 with L := putS D1.L s ⟨b ++ bs, y⟩ }) (w' := w5.setCell ⟨db, 2, none⟩ (.int .i64 ((u : Int) + (n2 : Int)))) HE.out.2 rfl (by
              have e := usedL_put ha.ok.asc.pair s ⟨b ++ bs, y⟩
              have hg2 := ha.get s
              rw [hf] at hg2
              rw [← hg2] at e
              simp only [Option.map_some, szM, Fi.t, List.length_append] at e
              have := HU.out
              have := HS.out.2.1
              exact usedBox (M := putS D1.L s ⟨b ++ bs, y⟩) b5 (by omega) rfl) (hm5.kept k6 (fun e => ha.ne e.symm)) (((ho4 y).kept hk5 (fun k e => (hnb5 k e).1)).kept k6 (fun k e => (hnb5 k e).2))
            (((hk4.mono (fun k _ e => .inr (.inr (by rw [lookF_some hf]; exact e)))).trans (hk5.mono (fun k _ e => .inr (.inl e)))).trans (k6.mono (fun k _ e => .inl e))) (fun k e => by
              rw [lookF_some hf]
              unfold Fi.v at e
              simp only [← hNl] at e
              exact hb4 k e)
          exact DTo.behind hkw ⟨_, rfl, hput⟩)
        have cA := ha.c.1
        have cD := hd.c.1
        have cA4 : w4.cell? ⟨db, 0, none⟩ = some (.map (some mb)) := b4.cell rfl
        have qA0 : wa.cell? ⟨q, 0, none⟩ = some (.slice a n c) := BA.cell rfl
        have qA1 : wa.cell? ⟨q, 1, none⟩ = some (.int .i64 (y : Int)) := BA.cell rfl
        have q40 : w4.cell? ⟨q, 0, none⟩ = some (.slice a n c) := q4.cell rfl
        have q41 : w4.cell? ⟨q, 1, none⟩ = some (.int .i64 (y : Int)) := q4.cell rfl
        have c52 : w5.cell? ⟨db, 2, none⟩ = some (.int .i64 (u : Int)) := by rw [HU.out]; exact b5.cell rfl
        have f52 := b5.fz 2
        have hu9 : u ≤ 4194304 := by omega
        have hn29 : n2 ≤ 100000000 := HS.out.2.2
        have HAP := Lib.hid hap
        have HW := Lib.hid (And.intro hwa hq)
        clear hap hf h1 hwd hwa hq hd kd ka kad ha hkw hsrc hown hsr ho4 hk4 hb4 hnb b4 m4 q4 hm5 hk5 b5 k6 BA hn hN hNl hsm hub
        go_upto_region 7 with fail
        rw [← HW.out.1, ← HW.out.2]
        go_region_law (refine step_append_run (by rfl) (.tmp 39) (.tmp 40) _ _ (by rfl) _ _ (by rfl) (by rfl) HAP.out ?_)
        all_goals (go_wp2; go_ret; rw [HE.out.1]; exact HR.out)
  · have q0 : (z != 0) = true := bneT hz
    have HY := Lib.hid (HX.out.2 hz)
    clear hz
    go_wp2
    go_ret
    rw [HY.out]
    exact BeganTo.to ⟨rfl, HD.out.1, HD.out.2⟩
end Go.Proofs.YtficodklidaheaaDoor
/- A region that draws its order, whose last operation changes what the others read: what the others read holds behind each of them, but not behind that one. -/
namespace Go.Proofs.YtficodklidaheaaDoor
open Go

section
variable {P : Program} {ops : Array Oper} {Q : Exit → Act → World → Prop} {md : Region.Mode} {S : World → Prop} {k : Nat}

/-- In whatever order the rest comes; S holds behind each but number k. -/
def AnyBut (P : Program) (md : Region.Mode) (ops : Array Oper) (Q : Exit → Act → World → Prop) (S : World → Prop) (k : Nat) : Nat → Array Bool → Act → World → Prop
  | 0, listed, a, w => Region.ready md ops listed = [] ∧ Q .normal a w
  | n + 1, listed, a, w =>
    (Region.ready md ops listed = [] → Q .normal a w) ∧
    ∀ i ∈ Region.ready md ops listed, wpOp P ops Q i (fun a' w' => (i ≠ k → S w') ∧ AnyBut P md ops Q S k n (listed.setIfInBounds i true) a' w') a w

theorem AnyBut.any : ∀ (n : Nat) (listed : Array Bool) (a : Act) (w : World), AnyBut P md ops Q S k n listed a w → wpAny P md ops Q n listed a w
  | 0, _, _, _, h => h
  | n + 1, _, _, _, h => ⟨h.1, fun i hi => wpOp_mono (fun _ _ x => AnyBut.any n _ _ _ x.2) (h.2 i hi)⟩

theorem listed_of_wait {i : Nat} {listed : Array Bool} (hk : Region.waitsFor md ops k i = true) (hr : k ∈ Region.ready md ops listed) : i ∉ Region.ready md ops listed := by
  intro hi
  obtain ⟨ok, hok, e, he, hb, rfl⟩ := Region.waitsFor_spec hk
  obtain ⟨_, ok', hok', hall⟩ := mem_ready.1 hr
  rw [hok] at hok'
  injection hok' with hok'
  subst hok'
  have h1 := hall e he hb
  have h0 := (mem_ready.1 hi).1
  by_cases hs : e.on < listed.size
  · simp [hs] at h0 h1
    rw [h0] at h1; cases h1
  · simp [Array.getElem?_eq_none (Nat.le_of_not_lt hs)] at h1

theorem AnyBut.first {i : Nat} {oi : Oper} {v : Value} (hi : ops[i]? = some oi) (hs : Region.noSelect ops = true) (hk : Region.waitsFor md ops k i = true)
    (hQ : ∀ c a w, Q (.panic c) (a.put oi.dst v) w → Q (.panic c) a w) :
    ∀ (n : Nat) (listed : Array Bool) (a : Act) (w : World), Region.free md ops listed i = true →
      i ∈ Region.ready md ops listed → YieldsIf P ops S oi v a → S w →
      AnyBut P md ops Q S k n (listed.setIfInBounds i true) (a.put oi.dst v) w → AnyBut P md ops Q S k (n + 1) listed a w := by
  intro n listed a w hf
  have hfree := Region.free_spec hi hf
  clear hf
  induction n generalizing listed a w with
  | zero =>
    intro hr hy hS H
    refine ⟨fun h => (by rw [h] at hr; cases hr), fun j hj => ?_⟩
    by_cases hji : j = i
    · subst hji; exact hy.wpOp hi hS ⟨fun _ => hS, H⟩
    · have := ready_mono hj hji
      rw [H.1] at this
      cases this
  | succ n ih =>
    intro hr hy hS H
    refine ⟨fun h => (by rw [h] at hr; cases hr), fun j hj => ?_⟩
    by_cases hji : j = i
    · subst hji; exact hy.wpOp hi hS ⟨fun _ => hS, H⟩
    have hjk : j ≠ k := fun e => by subst e; exact listed_of_wait hk hj hr
    obtain ⟨hjun, oj, hoj, _⟩ := mem_ready.1 hj
    have hnot : ∀ e ∈ oj.after, Region.binds md e = true → e.on ≠ i := fun e he hb heq => by
      have : Region.waitsFor md ops j i = true := by
        unfold Region.waitsFor
        rw [hoj]
        exact Array.any_eq_true'.2 ⟨e, he, by simp [hb, heq]⟩
      exact listed_of_wait this hj hr
    have hstep := wpOp_putIf hoj (hfree j oj hoj hji hjun hnot) (Region.noSelect_spec hs i oi · · hi) (Region.noSelect_spec hs j oj · · hoj) hQ hy (H.2 j (ready_mono hj hji))
    refine wpOp_mono (fun a' w' h3 => ⟨fun _ => h3.2.1 hjk, ih _ a' w' (fun m om hm hmi hun hno => ?_) (ready_mono hr (Ne.symm hji)) h3.1 (h3.2.1 hjk) ?_⟩) hstep
    · refine hfree m om hm hmi ?_ hno
      by_cases hjm : j = m
      · subst hjm; exact hjun
      · rw [getD_set_ne true hjm] at hun; exact hun
    · rw [Array.setIfInBounds_comm _ _ hji]
      exact h3.2.2

theorem AnyBut.take {i : Nat} {oi : Oper} {v : Value} {n : Nat} {listed : Array Bool} {a : Act} {w : World} (hi : ops[i]? = some oi)
    (hs : Region.noSelect ops = true) (hk : Region.waitsFor md ops k i = true) (hf : Region.free md ops listed i = true) (hr : (Region.ready md ops listed).contains i = true)
    (hQ : ∀ c a w, Q (.panic c) (a.put oi.dst v) w → Q (.panic c) a w) (hS : S w) (hy : YieldsIf P ops S oi v a)
    (h : AnyBut P md ops Q S k n (listed.setIfInBounds i true) (a.put oi.dst v) w) : AnyBut P md ops Q S k (n + 1) listed a w :=
  AnyBut.first hi hs hk hQ n listed a w hf (by simpa using hr) hy hS h

/-- The one operation that may come up now, that is not the last one. -/
theorem AnyBut.one {i : Nat} {o : Oper} {n : Nat} {listed : Array Bool} {a : Act} {w : World} (hr : Region.ready md ops listed = [i]) (ho : ops[i]? = some o)
    (h : ∀ K' : Act → World → Prop, Shut (∀ a w, S w → AnyBut P md ops Q S k n (listed.setIfInBounds i true) a w → K' a w) → if Region.wanted o (yielded ops a.tmps) = true then Oper.wp P o a w K' Q else K' (a.put o.dst undef) w) :
    AnyBut P md ops Q S k (n + 1) listed a w :=
  ⟨fun h0 => (by rw [hr] at h0; cases h0), fun j hj => by
    rw [hr] at hj
    obtain rfl := List.mem_singleton.1 hj
    exact wpOp_step ho (fun K' hK => h K' (fun a w hS hW => hK a w ⟨fun _ => hS, hW⟩))⟩

/-- The last one: behind it there is nothing left. -/
theorem AnyBut.last {o : Oper} {n : Nat} {listed : Array Bool} {a : Act} {w : World} (hr : Region.ready md ops listed = [k]) (ho : ops[k]? = some o) (hend : Region.ready md ops (listed.setIfInBounds k true) = [])
    (h : ∀ K' : Act → World → Prop, Shut (∀ a w, Q .normal a w → K' a w) → if Region.wanted o (yielded ops a.tmps) = true then Oper.wp P o a w K' Q else K' (a.put o.dst undef) w) :
    AnyBut P md ops Q S k (n + 1) listed a w :=
  ⟨fun h0 => (by rw [hr] at h0; cases h0), fun j hj => by
    rw [hr] at hj
    obtain rfl := List.mem_singleton.1 hj
    refine wpOp_step ho (fun K' hK => h K' (fun a w hQ => hK a w ⟨fun e => absurd rfl e, ?_⟩))
    cases n with
    | zero => exact ⟨hend, hQ⟩
    | succ n => exact ⟨fun _ => hQ, by rw [hend]; intro i hi; cases hi⟩⟩

/-- The beginning. -/
theorem AnyBut.start {id : Nat} {a : Act} {w : World} (hm : P.follows .mixedOrders = true)
    (h : AnyBut P .any ops Q S k ops.size (Array.replicate ops.size false) a w.drew) : (Code.region id ops true).wp P Q a w :=
  wp_region_any hm (AnyBut.any _ _ _ _ h)
end
end Go.Proofs.YtficodklidaheaaDoor
/- A region that draws its order: two operations that may come up now. -/
namespace Go.Proofs.YtficodklidaheaaDoor
open Go
section
variable {P : Program} {ops : Array Oper} {Q : Exit → Act → World → Prop} {md : Region.Mode} {S : World → Prop} {k : Nat}
theorem AnyBut.two {i j : Nat} {oi oj : Oper} {n : Nat} {listed : Array Bool} {a : Act} {w : World} (hr : Region.ready md ops listed = [i, j]) (hoi : ops[i]? = some oi) (hoj : ops[j]? = some oj)
    (h1 : ∀ K' : Act → World → Prop, Shut (∀ a w, S w → AnyBut P md ops Q S k n (listed.setIfInBounds i true) a w → K' a w) → if Region.wanted oi (yielded ops a.tmps) = true then Oper.wp P oi a w K' Q else K' (a.put oi.dst undef) w)
    (h2 : ∀ K' : Act → World → Prop, Shut (∀ a w, S w → AnyBut P md ops Q S k n (listed.setIfInBounds j true) a w → K' a w) → if Region.wanted oj (yielded ops a.tmps) = true then Oper.wp P oj a w K' Q else K' (a.put oj.dst undef) w) :
    AnyBut P md ops Q S k (n + 1) listed a w :=
  ⟨fun h0 => (by rw [hr] at h0; cases h0), fun m hm => by
    rw [hr] at hm
    rcases List.mem_cons.1 hm with rfl | hm
    · exact wpOp_step hoi (fun K' hK => h1 K' (fun a w hS hW => hK a w ⟨fun _ => hS, hW⟩))
    · obtain rfl := List.mem_singleton.1 hm
      exact wpOp_step hoj (fun K' hK => h2 K' (fun a w hS hW => hK a w ⟨fun _ => hS, hW⟩))⟩
theorem AnyBut.three {i j m : Nat} {oi oj om : Oper} {n : Nat} {listed : Array Bool} {a : Act} {w : World} (hr : Region.ready md ops listed = [i, j, m]) (hoi : ops[i]? = some oi) (hoj : ops[j]? = some oj) (hom : ops[m]? = some om)
    (h1 : ∀ K' : Act → World → Prop, Shut (∀ a w, S w → AnyBut P md ops Q S k n (listed.setIfInBounds i true) a w → K' a w) → if Region.wanted oi (yielded ops a.tmps) = true then Oper.wp P oi a w K' Q else K' (a.put oi.dst undef) w)
    (h2 : ∀ K' : Act → World → Prop, Shut (∀ a w, S w → AnyBut P md ops Q S k n (listed.setIfInBounds j true) a w → K' a w) → if Region.wanted oj (yielded ops a.tmps) = true then Oper.wp P oj a w K' Q else K' (a.put oj.dst undef) w)
    (h3 : ∀ K' : Act → World → Prop, Shut (∀ a w, S w → AnyBut P md ops Q S k n (listed.setIfInBounds m true) a w → K' a w) → if Region.wanted om (yielded ops a.tmps) = true then Oper.wp P om a w K' Q else K' (a.put om.dst undef) w) :
    AnyBut P md ops Q S k (n + 1) listed a w :=
  ⟨fun h0 => (by rw [hr] at h0; cases h0), fun x hx => by
    rw [hr] at hx
    rcases List.mem_cons.1 hx with rfl | hx
    · exact wpOp_step hoi (fun K' hK => h1 K' (fun a w hS hW => hK a w ⟨fun _ => hS, hW⟩))
    · rcases List.mem_cons.1 hx with rfl | hx
      · exact wpOp_step hoj (fun K' hK => h2 K' (fun a w hS hW => hK a w ⟨fun _ => hS, hW⟩))
      · obtain rfl := List.mem_singleton.1 hx
        exact wpOp_step hom (fun K' hK => h3 K' (fun a w hS hW => hK a w ⟨fun _ => hS, hW⟩))⟩
/-- S holds behind every one (k is none of them). -/
theorem AnyBut.firstS {i : Nat} {oi : Oper} {v : Value} (hi : ops[i]? = some oi) (hs : Region.noSelect ops = true) (hk : ops.size ≤ k)
    (hQ : ∀ c a w, Q (.panic c) (a.put oi.dst v) w → Q (.panic c) a w) :
    ∀ (n : Nat) (listed : Array Bool) (a : Act) (w : World), Region.free md ops listed i = true →
      i ∈ Region.ready md ops listed → YieldsIf P ops S oi v a → S w →
      AnyBut P md ops Q S k n (listed.setIfInBounds i true) (a.put oi.dst v) w → AnyBut P md ops Q S k (n + 1) listed a w := by
  intro n listed a w hf
  have hfree := Region.free_spec hi hf
  clear hf
  induction n generalizing listed a w with
  | zero =>
    intro hr hy hS H
    refine ⟨fun h => (by rw [h] at hr; cases hr), fun j hj => ?_⟩
    by_cases hji : j = i
    · subst hji; exact hy.wpOp hi hS ⟨fun _ => hS, H⟩
    · have := ready_mono hj hji
      rw [H.1] at this
      cases this
  | succ n ih =>
    intro hr hy hS H
    refine ⟨fun h => (by rw [h] at hr; cases hr), fun j hj => ?_⟩
    by_cases hji : j = i
    · subst hji; exact hy.wpOp hi hS ⟨fun _ => hS, H⟩
    obtain ⟨hjun, oj, hoj, _⟩ := mem_ready.1 hj
    have hjk : j ≠ k := fun e => by have := (Array.getElem?_eq_some_iff.1 hoj).1; omega
    have hnot : ∀ e ∈ oj.after, Region.binds md e = true → e.on ≠ i := fun e he hb heq => by
      have : Region.waitsFor md ops j i = true := by
        unfold Region.waitsFor
        rw [hoj]
        exact Array.any_eq_true'.2 ⟨e, he, by simp [hb, heq]⟩
      exact listed_of_wait this hj hr
    have hstep := wpOp_putIf hoj (hfree j oj hoj hji hjun hnot) (Region.noSelect_spec hs i oi · · hi) (Region.noSelect_spec hs j oj · · hoj) hQ hy (H.2 j (ready_mono hj hji))
    refine wpOp_mono (fun a' w' h3 => ⟨fun _ => h3.2.1 hjk, ih _ a' w' (fun m om hm hmi hun hno => ?_) (ready_mono hr (Ne.symm hji)) h3.1 (h3.2.1 hjk) ?_⟩) hstep
    · refine hfree m om hm hmi ?_ hno
      by_cases hjm : j = m
      · subst hjm; exact hjun
      · rw [getD_set_ne true hjm] at hun; exact hun
    · rw [Array.setIfInBounds_comm _ _ hji]
      exact h3.2.2
theorem AnyBut.takeS {i : Nat} {oi : Oper} {v : Value} {n : Nat} {listed : Array Bool} {a : Act} {w : World} (hi : ops[i]? = some oi)
    (hs : Region.noSelect ops = true) (hk : ops.size ≤ k) (hf : Region.free md ops listed i = true) (hr : (Region.ready md ops listed).contains i = true)
    (hQ : ∀ c a w, Q (.panic c) (a.put oi.dst v) w → Q (.panic c) a w) (hS : S w) (hy : YieldsIf P ops S oi v a)
    (h : AnyBut P md ops Q S k n (listed.setIfInBounds i true) (a.put oi.dst v) w) : AnyBut P md ops Q S k (n + 1) listed a w :=
  AnyBut.firstS hi hs hk hQ n listed a w hf (by simpa using hr) hy hS h
/-- Nothing is left. -/
theorem AnyBut.done {n : Nat} {listed : Array Bool} {a : Act} {w : World} (hr : Region.ready md ops listed = []) (h : Q .normal a w) : AnyBut P md ops Q S k n listed a w := by
  cases n with
  | zero => exact ⟨hr, h⟩
  | succ n => exact ⟨fun _ => h, by rw [hr]; intro i hi; cases hi⟩
end
end Go.Proofs.YtficodklidaheaaDoor
