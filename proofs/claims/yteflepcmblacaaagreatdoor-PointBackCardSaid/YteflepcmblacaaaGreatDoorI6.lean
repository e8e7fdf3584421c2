/- Layer 12: what is wrong with a point (written by tools/gen_XI5.py). -/
import Derived.Test.YteflepcmblacaaaGreatDoorI5
import Derived.Test.YteflepcmblacaaaGreatDoorI3
namespace Go.Proofs.YteflepcmblacaaaGreatDoor
open Go.RowKit
attribute [local go_sem ↓] Go.wp_at_zero Go.wp_at_succ

theorem exec_load_row {P : Program} {o : Oper} {a : Act} {w : World} (ty : TypeId) (x : Operand) (ho : o.op = .load ty x)
    (g : Nat) (hx : a.eval x = .pointer (some ⟨g, 0, none⟩)) (t : TypeId) (cs : Array Value) (fr : Nat × Nat) (d : TypeDesc) (hg : w.heap[g]? = some (.cells cs t fr))
    (hu : P.underlying ty = some d) (hd : (match d with | .struct _ | .array _ _ => true | _ => false) = true) (hi : (P.info? ty).map (·.size) = some cs.size) : (execOp a.eval o).run P w = .ok (.value (.agg cs)) w := by
  unfold execOp
  simp only [ho, hx, Instr.loadAt, Instr.sureAddr, Sem.run_bind, Sem.run_pure, Result.andThen_ok, run_loadVar_row w g t ty cs fr d hg hu hd hi]
theorem wpList_load_rowG {P : Program} {ops : Array Oper} {rest : List Oper} {o : Oper} {a : Act} {w : World} {Q : Exit → Act → World → Prop} (hw : Region.wanted o (yielded ops a.tmps) = true) (ty : TypeId) (x : Operand) (ho : o.op = .load ty x)
    (g : Nat) (hx : a.eval x = .pointer (some ⟨g, 0, none⟩)) (t : TypeId) (cs : Array Value) (fr : Nat × Nat) (d : TypeDesc) (hg : w.heap[g]? = some (.cells cs t fr))
    (hu : P.underlying ty = some d) (hd : (match d with | .struct _ | .array _ _ => true | _ => false) = true) (hi : (P.info? ty).map (·.size) = some cs.size)
    (h : wpList P ops Q rest (a.put o.dst (.agg cs)) w) : wpList P ops Q (o :: rest) a w := by
  refine wpList_step fun K hK => ?_
  simp only [hw, if_true]
  exact wp_load_row ty x ho g hx t cs fr d hg hu hd hi (hK _ _ h)
theorem point_info : (Tryz.prog.info? 30).map (·.size) = some 17 := by kernel_rfl
set_option maxRecDepth 100000 in
set_option maxHeartbeats 16000000 in
theorem pCheck_any (x : Pnt) (aa pa na : Option Addr) (ac pc nc : Nat) (w : World) (ha : PntAt w x aa ac (.slice pa x.h.pl.length pc) (.slice na x.h.nl.length nc)) (hok : x.ok) (hli : x.light) :
    Calls Tryz.prog 8 #[pntV x (.slice aa x.L.length ac) (.slice pa x.h.pl.length pc) (.slice na x.h.nl.length nc)] w fun e w' => e = .returned (.int .i64 ((chk x : Nat) : Int)) ∧ Kept (fun _ => False) w w' := by
  have HLC := Lib.hid (fun w' (k : Kept (fun _ => False) w w') => check_any x.name aa ac x.L w' (ha.ps.kept k) ha.cap (by have := hli.len; omega) (by have := hli.name; omega) (hli.sh.mono (by omega)))
  have HKR := Lib.hid (fun w' => kindIsRight_any x (.slice aa x.L.length ac) (.slice pa x.h.pl.length pc) (.slice na x.h.nl.length nc) w')
  have HTR := Lib.hid (fun w' => timesAreRight_any x (.slice aa x.L.length ac) (.slice pa x.h.pl.length pc) (.slice na x.h.nl.length nc) w')
  have HVO := Lib.hid (fun w' => valueOf_any x (.slice aa x.L.length ac) pa na pc nc w')
  have HOW := Lib.hid (fun w' => ownOf_any x (.slice aa x.L.length ac) pa na pc nc w')
  have HSU := Lib.hid (fun w' => isSum_any x.kind w')
  have HFI := Lib.hid (fun w' => finite_any x.re hok.re.1 hok.re.2 w')
  have HLE := Lib.hid (fun w' => less_any x.re 0 w')
  have HHC := Lib.hid (fun w' (k : Kept (fun _ => False) w w') => histCheck_any x.h (.slice pa x.h.pl.length pc) (.slice na x.h.nl.length nc) w' (ha.hist.on k) hok.h (by have := hli.pl; omega) (by have := hli.nl; omega))
  have hneq := fun w' => own_neq x w'
  obtain ⟨CK, hCK⟩ : ∃ E, E = chk x := ⟨_, rfl⟩
  have hchk := hCK
  unfold chk at hchk
  obtain ⟨E, hE⟩ : ∃ E, E = checkE x.name x.L := ⟨_, rfl⟩
  obtain ⟨KB, hKB⟩ : ∃ E, E = kindB x := ⟨_, rfl⟩
  obtain ⟨TB, hTB⟩ : ∃ E, E = timesB x := ⟨_, rfl⟩
  obtain ⟨OB, hOB⟩ : ∃ E, E = ownB x := ⟨_, rfl⟩
  obtain ⟨SB, hSB⟩ : ∃ E, E = sumB x := ⟨_, rfl⟩
  obtain ⟨FB, hFB⟩ : ∃ E, E = finI x.re := ⟨_, rfl⟩
  obtain ⟨LB, hLB⟩ : ∃ E, E = lessI x.re 0 := ⟨_, rfl⟩
  obtain ⟨HE, hHE⟩ : ∃ E, E = x.h.err := ⟨_, rfl⟩
  have hSB' : decide (x.kind = 1 ∨ x.kind = 2) = SB := hSB.symm
  rw [← hE, ← hKB, ← hTB, ← hOB, ← hSB, ← hFB, ← hLB, ← hHE] at hchk
  rw [← hCK]
  rw [← hE] at HLC
  rw [← hKB] at HKR
  rw [← hTB] at HTR
  rw [hSB'] at HSU
  rw [← hFB] at HFI
  rw [← hLB] at HLE
  rw [← hHE] at HHC
  rw [← hOB] at hneq
  clear hE hKB hTB hOB hSB hFB hLB hHE hCK hSB' ha hok hli
  have HCK := Lib.hid hchk
  obtain ⟨VC, hVC⟩ : ∃ V, V = (valC x).toArray := ⟨_, rfl⟩
  obtain ⟨OC, hOC⟩ : ∃ V, V = (ownC x).toArray := ⟨_, rfl⟩
  rw [← hVC] at HVO hneq
  rw [← hOC] at HOW hneq
  have HNEQ := Lib.hid hneq
  clear hVC hOC hchk hneq
  unfold pntV pntC at HKR HTR HVO HOW ⊢
  unfold histV at HHC
  obtain ⟨name, L, kind, temp, mono, start, time, whole, re, im, ⟨sc, ze, po, pl, no, nl⟩, flags⟩ := x
  dsimp only at HLC HKR HTR HVO HOW HSU HFI HLE HHC HCK ⊢
  obtain ⟨al, hal⟩ : ∃ m, m = L.length := ⟨_, rfl⟩
  obtain ⟨m, hm⟩ : ∃ m, m = pl.length := ⟨_, rfl⟩
  obtain ⟨n, hn⟩ : ∃ n, n = nl.length := ⟨_, rfl⟩
  rw [← hm, ← hn, ← hal] at HKR HTR HVO HOW ⊢
  rw [← hm, ← hn] at HHC
  rw [← hal] at HLC
  obtain ⟨q, hq⟩ : ∃ q, q = w.heap.size := ⟨_, rfl⟩
  obtain ⟨w1, hw1⟩ : ∃ w1, w1 = w.alloc (.cells #[.string name, .slice aa al ac, .int .i64 kind, .int .i64 temp, .bool mono, .int .i64 start, .int .i64 time, .int .i64 whole, .int .u64 re, .int .u64 im, .int .i64 sc, .int .u64 (ze : Int), .int .i64 po, .slice pa m pc, .int .i64 no, .slice na n nc, .int .i64 flags] 30) := ⟨_, rfl⟩
  have hb : w1.heap[q]? = some (.cells #[.string name, .slice aa al ac, .int .i64 kind, .int .i64 temp, .bool mono, .int .i64 start, .int .i64 time, .int .i64 whole, .int .u64 re, .int .u64 im, .int .i64 sc, .int .u64 (ze : Int), .int .i64 po, .slice pa m pc, .int .i64 no, .slice na n nc, .int .i64 flags] 30 (0, 0)) := by rw [hw1, hq]; exact heap_alloc_new w _
  have HBB : Hid (∀ w', Kept (fun _ => False) w1 w' → w'.heap[q]? = some (.cells #[.string name, .slice aa al ac, .int .i64 kind, .int .i64 temp, .bool mono, .int .i64 start, .int .i64 time, .int .i64 whole, .int .u64 re, .int .u64 im, .int .i64 sc, .int .u64 (ze : Int), .int .i64 po, .slice pa m pc, .int .i64 no, .slice na n nc, .int .i64 flags] 30 (0, 0))) := Lib.hid (fun w' k => k.same hb (fun x => x))
  have HPS : Hid (∀ w', Kept (fun _ => False) w1 w' → w'.cell? ⟨q, 0, none⟩ = some (.string name) ∧ w'.cell? ⟨q, 1, none⟩ = some (.slice aa al ac) ∧ w'.cell? ⟨q, 2, none⟩ = some (.int .i64 kind) ∧ w'.cell? ⟨q, 3, none⟩ = some (.int .i64 temp) ∧ w'.cell? ⟨q, 4, none⟩ = some (.bool mono) ∧ w'.cell? ⟨q, 5, none⟩ = some (.int .i64 start) ∧ w'.cell? ⟨q, 6, none⟩ = some (.int .i64 time) ∧ w'.cell? ⟨q, 7, none⟩ = some (.int .i64 whole) ∧ w'.cell? ⟨q, 8, none⟩ = some (.int .u64 re) ∧ w'.cell? ⟨q, 9, none⟩ = some (.int .u64 im) ∧ w'.cell? ⟨q, 10, none⟩ = some (.int .i64 sc) ∧ w'.cell? ⟨q, 11, none⟩ = some (.int .u64 (ze : Int)) ∧ w'.cell? ⟨q, 12, none⟩ = some (.int .i64 po) ∧ w'.cell? ⟨q, 13, none⟩ = some (.slice pa m pc) ∧ w'.cell? ⟨q, 14, none⟩ = some (.int .i64 no) ∧ w'.cell? ⟨q, 15, none⟩ = some (.slice na n nc) ∧ w'.cell? ⟨q, 16, none⟩ = some (.int .i64 flags)) := Lib.hid (fun w' k => by
    have b := k.same hb (fun x => x)
    exact ⟨cell_rowZ 0 _ b rfl, cell_rowZ 1 _ b rfl, cell_rowZ 2 _ b rfl, cell_rowZ 3 _ b rfl, cell_rowZ 4 _ b rfl, cell_rowZ 5 _ b rfl, cell_rowZ 6 _ b rfl, cell_rowZ 7 _ b rfl, cell_rowZ 8 _ b rfl, cell_rowZ 9 _ b rfl, cell_rowZ 10 _ b rfl, cell_rowZ 11 _ b rfl, cell_rowZ 12 _ b rfl, cell_rowZ 13 _ b rfl, cell_rowZ 14 _ b rfl, cell_rowZ 15 _ b rfl, cell_rowZ 16 _ b rfl⟩)
  have HSS : Hid (∀ w', Kept (fun _ => False) w1 w' → (fun w' => w'.heap[q]? = some (.cells #[.string name, .slice aa al ac, .int .i64 kind, .int .i64 temp, .bool mono, .int .i64 start, .int .i64 time, .int .i64 whole, .int .u64 re, .int .u64 im, .int .i64 sc, .int .u64 (ze : Int), .int .i64 po, .slice pa m pc, .int .i64 no, .slice na n nc, .int .i64 flags] 30 (0, 0)) ∧ w'.cell? ⟨q, 16, none⟩ = some (.int .i64 flags)) w') := Lib.hid (fun w' k => by
    have b := k.same hb (fun x => x)
    exact ⟨b, cell_rowZ 16 _ b rfl⟩)
  have HK1 : Hid (Kept (fun _ => False) w w1) := Lib.hid (by rw [hw1]; exact (Kept.refl _ _).alloc _)
  have HW1 := Lib.hid (And.intro hw1 hq)
  clear hb hw1 hq hal hm hn
  go_enter Tryz.func8, Tryz.ntmps8
  go_wp2_with fail
  rw [← HW1.out.1, ← HW1.out.2]
  refine (HLC.out w1 HK1.out).mono ?_
  rintro e w2 ⟨rfl, k2⟩
  have HK2 := Lib.hid k2
  clear k2
  by_cases hE : E = 0
  · subst hE
    have HB2 := Lib.hid (HBB.out w2 HK2.out)
    go_wp2_with (first
      | (refine wpList_load_row rfl 30 (.tmp 1) rfl q rfl 30 _ (0, 0) _ HB2.out Tryz.underlying30 rfl point_info ?_)
      | (refine wpList_load_rowG rfl 30 (.tmp 1) rfl q rfl 30 _ (0, 0) _ HB2.out Tryz.underlying30 rfl point_info ?_)
      | fail)
    refine (HKR.out w2).mono ?_
    rintro e w3 ⟨rfl, k3⟩
    have HK3 := Lib.hid (HK2.out.trans k3)
    have HB3 := Lib.hid (HBB.out w3 HK3.out)
    clear k3
    cases KB with
    | false =>
      have HX : Hid (CK = 14) := Lib.hid (by rw [HCK.out, if_neg (by decide), if_pos rfl])
      go_wp2
      go_ret
      exact ⟨by rw [HX.out]; rfl, HK1.out.trans HK3.out⟩
    | true =>
      obtain ⟨_, _, c2, _, c4, _, _, _, _, _, _, _, _, _, _, _, _⟩ := HPS.out w3 (HK3.out)
      cases mono with
      | true =>
        go_wp2_with fail
        refine (HSU.out w3).mono ?_
        rintro e w3' ⟨rfl, rfl⟩
        cases SB with
        | false =>
          have HX : Hid (CK = 1) := Lib.hid (by rw [HCK.out, if_neg (by decide), if_neg (by decide), if_pos (by simp)])
          go_wp2
          go_ret
          exact ⟨by rw [HX.out]; rfl, HK1.out.trans HK3.out⟩
        | true =>
          go_wp2_with (first
            | (refine wpList_load_row rfl 30 (.tmp 1) rfl q rfl 30 _ (0, 0) _ HB3.out Tryz.underlying30 rfl point_info ?_)
            | (refine wpList_load_rowG rfl 30 (.tmp 1) rfl q rfl 30 _ (0, 0) _ HB3.out Tryz.underlying30 rfl point_info ?_)
            | fail)
          refine (HTR.out w3).mono ?_
          rintro e w4 ⟨rfl, k4⟩
          have HK4u := Lib.hid (HK3.out.trans k4)
          have HK4 := Lib.hid (HK4u.out.drew)
          clear k4
          cases TB with
          | false =>
            have HX : Hid (CK = 1) := Lib.hid (by rw [HCK.out, if_neg (by decide), if_neg (by decide), if_pos (by simp)])
            go_wp2
            go_ret
            exact ⟨by rw [HX.out]; rfl, HK1.out.trans HK4u.out⟩
          | true =>
            have HC3 : Hid (CK = if OB = false ∨ flags < 0 ∨ 31 < flags then 3 else if FB = false then 11 else if whole < 0 ∨ LB = true then 1 else HE) := Lib.hid (by rw [HCK.out, if_neg (by decide), if_neg (by decide), if_neg (by simp)]; simp only [true_and])
            have HS4 := Lib.hid (HSS.out w4.drew HK4.out)
            clear c2 c4
            cases OB with
            | false =>
              have HX : Hid (CK = 3) := Lib.hid (by rw [HC3.out, if_pos (.inl rfl)])
              go_upto_region 8 with fail
              have hneq := HNEQ.out
              refine AnyBut.start (S := fun w' => w'.heap[q]? = some (.cells #[.string name, .slice aa al ac, .int .i64 kind, .int .i64 temp, .bool true, .int .i64 start, .int .i64 time, .int .i64 whole, .int .u64 re, .int .u64 im, .int .i64 sc, .int .u64 (ze : Int), .int .i64 po, .slice pa m pc, .int .i64 no, .slice na n nc, .int .i64 flags] 30 (0, 0)) ∧ w'.cell? ⟨q, 16, none⟩ = some (.int .i64 flags)) (k := 15) (by kernel_rfl) ?_
              refine AnyBut.takeS (i := 0) (v := ?v1) rfl (by kernel_rfl) (Nat.le_of_eq (by kernel_rfl)) (by kernel_rfl) (by kernel_rfl) (fun _ _ _ h => h) (HS4.out) (Or.inl ⟨by kernel_rfl, ?hy1⟩) ?r1
              case hy1 =>
                intro w hSw
                try dsimp only at hSw
                refine exec_load_row 30 (.tmp 1) ?_ q ?_ 30 _ (0, 0) _ hSw.1 Tryz.underlying30 rfl point_info
                · rfl
                · rfl
              try simp only [Act.put, List.getElem_toArray, List.getElem_cons_zero, List.setIfInBounds_toArray, List.set_cons_zero, List.set_cons_succ]
              refine AnyBut.takeS (i := 2) (v := ?v2) rfl (by kernel_rfl) (Nat.le_of_eq (by kernel_rfl)) (by kernel_rfl) (by kernel_rfl) (fun _ _ _ h => h) (HS4.out) (Or.inl ⟨by kernel_rfl, ?hy2⟩) ?r2
              case hy2 =>
                intro w hSw
                try dsimp only at hSw
                refine exec_load_row 30 (.tmp 1) ?_ q ?_ 30 _ (0, 0) _ hSw.1 Tryz.underlying30 rfl point_info
                · rfl
                · rfl
              try simp only [Act.put, List.getElem_toArray, List.getElem_cons_succ, List.getElem_cons_zero, List.setIfInBounds_toArray, List.set_cons_zero, List.set_cons_succ]
              refine AnyBut.one (i := 1) (by kernel_rfl) rfl (fun K hK => ?_)
              go_simp
              go_wp2_with fail
              refine (HVO.out _).mono ?_
              rintro e w5 ⟨rfl, k5⟩
              have HK5 := Lib.hid (HK4.out.trans k5)
              have HS5 := Lib.hid (HSS.out w5 HK5.out)
              clear k5
              go_wp2
              refine hK.out _ _ (HS5.out) ?_
              clear hK K
              try simp only [Act.put, List.getElem_toArray, List.getElem_cons_succ, List.getElem_cons_zero, List.setIfInBounds_toArray, List.set_cons_zero, List.set_cons_succ]
              refine AnyBut.one (i := 3) (by kernel_rfl) rfl (fun K hK => ?_)
              go_simp
              go_wp2_with fail
              refine (HOW.out _).mono ?_
              rintro e w6 ⟨rfl, k6⟩
              have HK6 := Lib.hid (HK5.out.trans k6)
              have HS6 := Lib.hid (HSS.out w6 HK6.out)
              clear k6
              go_wp2
              refine hK.out _ _ (HS6.out) ?_
              clear hK K
              try simp only [Act.put, List.getElem_toArray, List.getElem_cons_succ, List.getElem_cons_zero, List.setIfInBounds_toArray, List.set_cons_zero, List.set_cons_succ]
              refine AnyBut.takeS (i := 4) (v := ?v3) rfl (by kernel_rfl) (Nat.le_of_eq (by kernel_rfl)) (by kernel_rfl) (by kernel_rfl) (fun _ _ _ h => h) (HS6.out) (Or.inl ⟨by kernel_rfl, ?hy3⟩) ?r3
              case hy3 =>
                intro w hSw
                try dsimp only at hSw
                go_simp
                first | (obtain ⟨y0, y1⟩ := hSw; go_simp) | skip
                try with_reducible rfl
              try simp only [Act.put, List.getElem_toArray, List.getElem_cons_succ, List.getElem_cons_zero, List.setIfInBounds_toArray, List.set_cons_zero, List.set_cons_succ]
              refine AnyBut.takeS (i := 5) (v := ?v4) rfl (by kernel_rfl) (Nat.le_of_eq (by kernel_rfl)) (by kernel_rfl) (by kernel_rfl) (fun _ _ _ h => h) (HS6.out) (Or.inl ⟨by kernel_rfl, ?hy4⟩) ?r4
              case hy4 =>
                intro w hSw
                try dsimp only at hSw
                go_simp
                first | (obtain ⟨y0, y1⟩ := hSw; go_simp) | skip
                try with_reducible rfl
              try simp only [Act.put, List.getElem_toArray, List.getElem_cons_succ, List.getElem_cons_zero, List.setIfInBounds_toArray, List.set_cons_zero, List.set_cons_succ]
              refine AnyBut.takeS (i := 6) (v := undef) rfl (by kernel_rfl) (Nat.le_of_eq (by kernel_rfl)) (by kernel_rfl) (by kernel_rfl) (fun _ _ _ h => h) (HS6.out) (Or.inr ⟨by kernel_rfl, rfl⟩) ?r5
              try simp only [Act.put, List.getElem_toArray, List.getElem_cons_succ, List.getElem_cons_zero, List.setIfInBounds_toArray, List.set_cons_zero, List.set_cons_succ]
              refine AnyBut.takeS (i := 7) (v := undef) rfl (by kernel_rfl) (Nat.le_of_eq (by kernel_rfl)) (by kernel_rfl) (by kernel_rfl) (fun _ _ _ h => h) (HS6.out) (Or.inr ⟨by kernel_rfl, rfl⟩) ?r6
              try simp only [Act.put, List.getElem_toArray, List.getElem_cons_succ, List.getElem_cons_zero, List.setIfInBounds_toArray, List.set_cons_zero, List.set_cons_succ]
              refine AnyBut.takeS (i := 8) (v := undef) rfl (by kernel_rfl) (Nat.le_of_eq (by kernel_rfl)) (by kernel_rfl) (by kernel_rfl) (fun _ _ _ h => h) (HS6.out) (Or.inr ⟨by kernel_rfl, rfl⟩) ?r7
              try simp only [Act.put, List.getElem_toArray, List.getElem_cons_succ, List.getElem_cons_zero, List.setIfInBounds_toArray, List.set_cons_zero, List.set_cons_succ]
              refine AnyBut.takeS (i := 9) (v := ?v8) rfl (by kernel_rfl) (Nat.le_of_eq (by kernel_rfl)) (by kernel_rfl) (by kernel_rfl) (fun _ _ _ h => h) (HS6.out) (Or.inl ⟨by kernel_rfl, ?hy8⟩) ?r8
              case hy8 =>
                intro w hSw
                try dsimp only at hSw
                go_simp
                first | (obtain ⟨y0, y1⟩ := hSw; go_simp) | skip
                try with_reducible rfl
              try simp only [Act.put, List.getElem_toArray, List.getElem_cons_succ, List.getElem_cons_zero, List.setIfInBounds_toArray, List.set_cons_zero, List.set_cons_succ]
              refine AnyBut.takeS (i := 10) (v := ?v9) rfl (by kernel_rfl) (Nat.le_of_eq (by kernel_rfl)) (by kernel_rfl) (by kernel_rfl) (fun _ _ _ h => h) (HS6.out) (Or.inl ⟨by kernel_rfl, ?hy9⟩) ?r9
              case hy9 =>
                intro w hSw
                try dsimp only at hSw
                go_simp
                first | (obtain ⟨y0, y1⟩ := hSw; go_simp) | skip
                try with_reducible rfl
              try simp only [Act.put, List.getElem_toArray, List.getElem_cons_succ, List.getElem_cons_zero, List.setIfInBounds_toArray, List.set_cons_zero, List.set_cons_succ]
              refine AnyBut.takeS (i := 11) (v := undef) rfl (by kernel_rfl) (Nat.le_of_eq (by kernel_rfl)) (by kernel_rfl) (by kernel_rfl) (fun _ _ _ h => h) (HS6.out) (Or.inr ⟨by kernel_rfl, rfl⟩) ?r10
              try simp only [Act.put, List.getElem_toArray, List.getElem_cons_succ, List.getElem_cons_zero, List.setIfInBounds_toArray, List.set_cons_zero, List.set_cons_succ]
              refine AnyBut.takeS (i := 12) (v := undef) rfl (by kernel_rfl) (Nat.le_of_eq (by kernel_rfl)) (by kernel_rfl) (by kernel_rfl) (fun _ _ _ h => h) (HS6.out) (Or.inr ⟨by kernel_rfl, rfl⟩) ?r11
              try simp only [Act.put, List.getElem_toArray, List.getElem_cons_succ, List.getElem_cons_zero, List.setIfInBounds_toArray, List.set_cons_zero, List.set_cons_succ]
              refine AnyBut.takeS (i := 13) (v := undef) rfl (by kernel_rfl) (Nat.le_of_eq (by kernel_rfl)) (by kernel_rfl) (by kernel_rfl) (fun _ _ _ h => h) (HS6.out) (Or.inr ⟨by kernel_rfl, rfl⟩) ?r12
              try simp only [Act.put, List.getElem_toArray, List.getElem_cons_succ, List.getElem_cons_zero, List.setIfInBounds_toArray, List.set_cons_zero, List.set_cons_succ]
              refine AnyBut.takeS (i := 14) (v := ?v13) rfl (by kernel_rfl) (Nat.le_of_eq (by kernel_rfl)) (by kernel_rfl) (by kernel_rfl) (fun _ _ _ h => h) (HS6.out) (Or.inl ⟨by kernel_rfl, ?hy13⟩) ?r13
              case hy13 =>
                intro w hSw
                try dsimp only at hSw
                go_simp
                first | (obtain ⟨y0, y1⟩ := hSw; go_simp) | skip
                try with_reducible rfl
              try simp only [Act.put, List.getElem_toArray, List.getElem_cons_succ, List.getElem_cons_zero, List.setIfInBounds_toArray, List.set_cons_zero, List.set_cons_succ]
              refine AnyBut.done (by kernel_rfl) ?_
              go_wp2
              go_ret
              exact ⟨by rw [HX.out]; rfl, HK1.out.trans HK6.out⟩
            | true =>
              by_cases hf0 : flags < 0
              · have q2 : decide (flags < 0) = true := decide_eq_true hf0
                have HX : Hid (CK = 3) := Lib.hid (by rw [HC3.out, if_pos (.inr (.inl hf0))])
                clear hf0
                go_upto_region 8 with fail
                have hneq := HNEQ.out
                refine AnyBut.start (S := fun w' => w'.heap[q]? = some (.cells #[.string name, .slice aa al ac, .int .i64 kind, .int .i64 temp, .bool true, .int .i64 start, .int .i64 time, .int .i64 whole, .int .u64 re, .int .u64 im, .int .i64 sc, .int .u64 (ze : Int), .int .i64 po, .slice pa m pc, .int .i64 no, .slice na n nc, .int .i64 flags] 30 (0, 0)) ∧ w'.cell? ⟨q, 16, none⟩ = some (.int .i64 flags)) (k := 15) (by kernel_rfl) ?_
                refine AnyBut.takeS (i := 0) (v := ?v14) rfl (by kernel_rfl) (Nat.le_of_eq (by kernel_rfl)) (by kernel_rfl) (by kernel_rfl) (fun _ _ _ h => h) (HS4.out) (Or.inl ⟨by kernel_rfl, ?hy14⟩) ?r14
                case hy14 =>
                  intro w hSw
                  try dsimp only at hSw
                  refine exec_load_row 30 (.tmp 1) ?_ q ?_ 30 _ (0, 0) _ hSw.1 Tryz.underlying30 rfl point_info
                  · rfl
                  · rfl
                try simp only [Act.put, List.getElem_toArray, List.getElem_cons_zero, List.setIfInBounds_toArray, List.set_cons_zero, List.set_cons_succ]
                refine AnyBut.takeS (i := 2) (v := ?v15) rfl (by kernel_rfl) (Nat.le_of_eq (by kernel_rfl)) (by kernel_rfl) (by kernel_rfl) (fun _ _ _ h => h) (HS4.out) (Or.inl ⟨by kernel_rfl, ?hy15⟩) ?r15
                case hy15 =>
                  intro w hSw
                  try dsimp only at hSw
                  refine exec_load_row 30 (.tmp 1) ?_ q ?_ 30 _ (0, 0) _ hSw.1 Tryz.underlying30 rfl point_info
                  · rfl
                  · rfl
                try simp only [Act.put, List.getElem_toArray, List.getElem_cons_succ, List.getElem_cons_zero, List.setIfInBounds_toArray, List.set_cons_zero, List.set_cons_succ]
                refine AnyBut.one (i := 1) (by kernel_rfl) rfl (fun K hK => ?_)
                go_simp
                go_wp2_with fail
                refine (HVO.out _).mono ?_
                rintro e w5 ⟨rfl, k5⟩
                have HK5 := Lib.hid (HK4.out.trans k5)
                have HS5 := Lib.hid (HSS.out w5 HK5.out)
                clear k5
                go_wp2
                refine hK.out _ _ (HS5.out) ?_
                clear hK K
                try simp only [Act.put, List.getElem_toArray, List.getElem_cons_succ, List.getElem_cons_zero, List.setIfInBounds_toArray, List.set_cons_zero, List.set_cons_succ]
                refine AnyBut.one (i := 3) (by kernel_rfl) rfl (fun K hK => ?_)
                go_simp
                go_wp2_with fail
                refine (HOW.out _).mono ?_
                rintro e w6 ⟨rfl, k6⟩
                have HK6 := Lib.hid (HK5.out.trans k6)
                have HS6 := Lib.hid (HSS.out w6 HK6.out)
                clear k6
                go_wp2
                refine hK.out _ _ (HS6.out) ?_
                clear hK K
                try simp only [Act.put, List.getElem_toArray, List.getElem_cons_succ, List.getElem_cons_zero, List.setIfInBounds_toArray, List.set_cons_zero, List.set_cons_succ]
                refine AnyBut.takeS (i := 4) (v := ?v16) rfl (by kernel_rfl) (Nat.le_of_eq (by kernel_rfl)) (by kernel_rfl) (by kernel_rfl) (fun _ _ _ h => h) (HS6.out) (Or.inl ⟨by kernel_rfl, ?hy16⟩) ?r16
                case hy16 =>
                  intro w hSw
                  try dsimp only at hSw
                  go_simp
                  first | (obtain ⟨y0, y1⟩ := hSw; go_simp) | skip
                  try with_reducible rfl
                try simp only [Act.put, List.getElem_toArray, List.getElem_cons_succ, List.getElem_cons_zero, List.setIfInBounds_toArray, List.set_cons_zero, List.set_cons_succ]
                refine AnyBut.takeS (i := 5) (v := ?v17) rfl (by kernel_rfl) (Nat.le_of_eq (by kernel_rfl)) (by kernel_rfl) (by kernel_rfl) (fun _ _ _ h => h) (HS6.out) (Or.inl ⟨by kernel_rfl, ?hy17⟩) ?r17
                case hy17 =>
                  intro w hSw
                  try dsimp only at hSw
                  go_simp
                  first | (obtain ⟨y0, y1⟩ := hSw; go_simp) | skip
                  try with_reducible rfl
                try simp only [Act.put, List.getElem_toArray, List.getElem_cons_succ, List.getElem_cons_zero, List.setIfInBounds_toArray, List.set_cons_zero, List.set_cons_succ]
                refine AnyBut.takeS (i := 6) (v := ?v18) rfl (by kernel_rfl) (Nat.le_of_eq (by kernel_rfl)) (by kernel_rfl) (by kernel_rfl) (fun _ _ _ h => h) (HS6.out) (Or.inl ⟨by kernel_rfl, ?hy18⟩) ?r18
                case hy18 =>
                  intro w hSw
                  try dsimp only at hSw
                  go_simp
                  first | (obtain ⟨y0, y1⟩ := hSw; go_simp) | skip
                  try with_reducible rfl
                try simp only [Act.put, List.getElem_toArray, List.getElem_cons_succ, List.getElem_cons_zero, List.setIfInBounds_toArray, List.set_cons_zero, List.set_cons_succ]
                refine AnyBut.takeS (i := 7) (v := ?v19) rfl (by kernel_rfl) (Nat.le_of_eq (by kernel_rfl)) (by kernel_rfl) (by kernel_rfl) (fun _ _ _ h => h) (HS6.out) (Or.inl ⟨by kernel_rfl, ?hy19⟩) ?r19
                case hy19 =>
                  intro w hSw
                  try dsimp only at hSw
                  go_simp
                  first | (obtain ⟨y0, y1⟩ := hSw; go_simp) | skip
                  try with_reducible rfl
                try simp only [Act.put, List.getElem_toArray, List.getElem_cons_succ, List.getElem_cons_zero, List.setIfInBounds_toArray, List.set_cons_zero, List.set_cons_succ]
                refine AnyBut.takeS (i := 8) (v := ?v20) rfl (by kernel_rfl) (Nat.le_of_eq (by kernel_rfl)) (by kernel_rfl) (by kernel_rfl) (fun _ _ _ h => h) (HS6.out) (Or.inl ⟨by kernel_rfl, ?hy20⟩) ?r20
                case hy20 =>
                  intro w hSw
                  try dsimp only at hSw
                  go_simp
                  first | (obtain ⟨y0, y1⟩ := hSw; go_simp) | skip
                  try with_reducible rfl
                try simp only [Act.put, List.getElem_toArray, List.getElem_cons_succ, List.getElem_cons_zero, List.setIfInBounds_toArray, List.set_cons_zero, List.set_cons_succ]
                refine AnyBut.takeS (i := 9) (v := ?v21) rfl (by kernel_rfl) (Nat.le_of_eq (by kernel_rfl)) (by kernel_rfl) (by kernel_rfl) (fun _ _ _ h => h) (HS6.out) (Or.inl ⟨by kernel_rfl, ?hy21⟩) ?r21
                case hy21 =>
                  intro w hSw
                  try dsimp only at hSw
                  go_simp
                  first | (obtain ⟨y0, y1⟩ := hSw; go_simp) | skip
                  try with_reducible rfl
                try simp only [Act.put, List.getElem_toArray, List.getElem_cons_succ, List.getElem_cons_zero, List.setIfInBounds_toArray, List.set_cons_zero, List.set_cons_succ]
                refine AnyBut.takeS (i := 10) (v := ?v22) rfl (by kernel_rfl) (Nat.le_of_eq (by kernel_rfl)) (by kernel_rfl) (by kernel_rfl) (fun _ _ _ h => h) (HS6.out) (Or.inl ⟨by kernel_rfl, ?hy22⟩) ?r22
                case hy22 =>
                  intro w hSw
                  try dsimp only at hSw
                  go_simp
                  first | (obtain ⟨y0, y1⟩ := hSw; go_simp) | skip
                  try with_reducible rfl
                try simp only [Act.put, List.getElem_toArray, List.getElem_cons_succ, List.getElem_cons_zero, List.setIfInBounds_toArray, List.set_cons_zero, List.set_cons_succ]
                refine AnyBut.takeS (i := 11) (v := undef) rfl (by kernel_rfl) (Nat.le_of_eq (by kernel_rfl)) (by kernel_rfl) (by kernel_rfl) (fun _ _ _ h => h) (HS6.out) (Or.inr ⟨by kernel_rfl, rfl⟩) ?r23
                try simp only [Act.put, List.getElem_toArray, List.getElem_cons_succ, List.getElem_cons_zero, List.setIfInBounds_toArray, List.set_cons_zero, List.set_cons_succ]
                refine AnyBut.takeS (i := 12) (v := undef) rfl (by kernel_rfl) (Nat.le_of_eq (by kernel_rfl)) (by kernel_rfl) (by kernel_rfl) (fun _ _ _ h => h) (HS6.out) (Or.inr ⟨by kernel_rfl, rfl⟩) ?r24
                try simp only [Act.put, List.getElem_toArray, List.getElem_cons_succ, List.getElem_cons_zero, List.setIfInBounds_toArray, List.set_cons_zero, List.set_cons_succ]
                refine AnyBut.takeS (i := 13) (v := undef) rfl (by kernel_rfl) (Nat.le_of_eq (by kernel_rfl)) (by kernel_rfl) (by kernel_rfl) (fun _ _ _ h => h) (HS6.out) (Or.inr ⟨by kernel_rfl, rfl⟩) ?r25
                try simp only [Act.put, List.getElem_toArray, List.getElem_cons_succ, List.getElem_cons_zero, List.setIfInBounds_toArray, List.set_cons_zero, List.set_cons_succ]
                refine AnyBut.takeS (i := 14) (v := ?v26) rfl (by kernel_rfl) (Nat.le_of_eq (by kernel_rfl)) (by kernel_rfl) (by kernel_rfl) (fun _ _ _ h => h) (HS6.out) (Or.inl ⟨by kernel_rfl, ?hy26⟩) ?r26
                case hy26 =>
                  intro w hSw
                  try dsimp only at hSw
                  go_simp
                  first | (obtain ⟨y0, y1⟩ := hSw; go_simp) | skip
                  try with_reducible rfl
                try simp only [Act.put, List.getElem_toArray, List.getElem_cons_succ, List.getElem_cons_zero, List.setIfInBounds_toArray, List.set_cons_zero, List.set_cons_succ]
                refine AnyBut.done (by kernel_rfl) ?_
                go_wp2
                go_ret
                exact ⟨by rw [HX.out]; rfl, HK1.out.trans HK6.out⟩
              have q2 : decide (flags < 0) = false := decide_eq_false hf0
              by_cases hf1 : 31 < flags
              · have q3 : decide (31 < flags) = true := decide_eq_true hf1
                have HX : Hid (CK = 3) := Lib.hid (by rw [HC3.out, if_pos (.inr (.inr hf1))])
                clear hf0 hf1
                go_upto_region 8 with fail
                have hneq := HNEQ.out
                refine AnyBut.start (S := fun w' => w'.heap[q]? = some (.cells #[.string name, .slice aa al ac, .int .i64 kind, .int .i64 temp, .bool true, .int .i64 start, .int .i64 time, .int .i64 whole, .int .u64 re, .int .u64 im, .int .i64 sc, .int .u64 (ze : Int), .int .i64 po, .slice pa m pc, .int .i64 no, .slice na n nc, .int .i64 flags] 30 (0, 0)) ∧ w'.cell? ⟨q, 16, none⟩ = some (.int .i64 flags)) (k := 15) (by kernel_rfl) ?_
                refine AnyBut.takeS (i := 0) (v := ?v27) rfl (by kernel_rfl) (Nat.le_of_eq (by kernel_rfl)) (by kernel_rfl) (by kernel_rfl) (fun _ _ _ h => h) (HS4.out) (Or.inl ⟨by kernel_rfl, ?hy27⟩) ?r27
                case hy27 =>
                  intro w hSw
                  try dsimp only at hSw
                  refine exec_load_row 30 (.tmp 1) ?_ q ?_ 30 _ (0, 0) _ hSw.1 Tryz.underlying30 rfl point_info
                  · rfl
                  · rfl
                try simp only [Act.put, List.getElem_toArray, List.getElem_cons_zero, List.setIfInBounds_toArray, List.set_cons_zero, List.set_cons_succ]
                refine AnyBut.takeS (i := 2) (v := ?v28) rfl (by kernel_rfl) (Nat.le_of_eq (by kernel_rfl)) (by kernel_rfl) (by kernel_rfl) (fun _ _ _ h => h) (HS4.out) (Or.inl ⟨by kernel_rfl, ?hy28⟩) ?r28
                case hy28 =>
                  intro w hSw
                  try dsimp only at hSw
                  refine exec_load_row 30 (.tmp 1) ?_ q ?_ 30 _ (0, 0) _ hSw.1 Tryz.underlying30 rfl point_info
                  · rfl
                  · rfl
                try simp only [Act.put, List.getElem_toArray, List.getElem_cons_succ, List.getElem_cons_zero, List.setIfInBounds_toArray, List.set_cons_zero, List.set_cons_succ]
                refine AnyBut.one (i := 1) (by kernel_rfl) rfl (fun K hK => ?_)
                go_simp
                go_wp2_with fail
                refine (HVO.out _).mono ?_
                rintro e w5 ⟨rfl, k5⟩
                have HK5 := Lib.hid (HK4.out.trans k5)
                have HS5 := Lib.hid (HSS.out w5 HK5.out)
                clear k5
                go_wp2
                refine hK.out _ _ (HS5.out) ?_
                clear hK K
                try simp only [Act.put, List.getElem_toArray, List.getElem_cons_succ, List.getElem_cons_zero, List.setIfInBounds_toArray, List.set_cons_zero, List.set_cons_succ]
                refine AnyBut.one (i := 3) (by kernel_rfl) rfl (fun K hK => ?_)
                go_simp
                go_wp2_with fail
                refine (HOW.out _).mono ?_
                rintro e w6 ⟨rfl, k6⟩
                have HK6 := Lib.hid (HK5.out.trans k6)
                have HS6 := Lib.hid (HSS.out w6 HK6.out)
                clear k6
                go_wp2
                refine hK.out _ _ (HS6.out) ?_
                clear hK K
                try simp only [Act.put, List.getElem_toArray, List.getElem_cons_succ, List.getElem_cons_zero, List.setIfInBounds_toArray, List.set_cons_zero, List.set_cons_succ]
                refine AnyBut.takeS (i := 4) (v := ?v29) rfl (by kernel_rfl) (Nat.le_of_eq (by kernel_rfl)) (by kernel_rfl) (by kernel_rfl) (fun _ _ _ h => h) (HS6.out) (Or.inl ⟨by kernel_rfl, ?hy29⟩) ?r29
                case hy29 =>
                  intro w hSw
                  try dsimp only at hSw
                  go_simp
                  first | (obtain ⟨y0, y1⟩ := hSw; go_simp) | skip
                  try with_reducible rfl
                try simp only [Act.put, List.getElem_toArray, List.getElem_cons_succ, List.getElem_cons_zero, List.setIfInBounds_toArray, List.set_cons_zero, List.set_cons_succ]
                refine AnyBut.takeS (i := 5) (v := ?v30) rfl (by kernel_rfl) (Nat.le_of_eq (by kernel_rfl)) (by kernel_rfl) (by kernel_rfl) (fun _ _ _ h => h) (HS6.out) (Or.inl ⟨by kernel_rfl, ?hy30⟩) ?r30
                case hy30 =>
                  intro w hSw
                  try dsimp only at hSw
                  go_simp
                  first | (obtain ⟨y0, y1⟩ := hSw; go_simp) | skip
                  try with_reducible rfl
                try simp only [Act.put, List.getElem_toArray, List.getElem_cons_succ, List.getElem_cons_zero, List.setIfInBounds_toArray, List.set_cons_zero, List.set_cons_succ]
                refine AnyBut.takeS (i := 6) (v := ?v31) rfl (by kernel_rfl) (Nat.le_of_eq (by kernel_rfl)) (by kernel_rfl) (by kernel_rfl) (fun _ _ _ h => h) (HS6.out) (Or.inl ⟨by kernel_rfl, ?hy31⟩) ?r31
                case hy31 =>
                  intro w hSw
                  try dsimp only at hSw
                  go_simp
                  first | (obtain ⟨y0, y1⟩ := hSw; go_simp) | skip
                  try with_reducible rfl
                try simp only [Act.put, List.getElem_toArray, List.getElem_cons_succ, List.getElem_cons_zero, List.setIfInBounds_toArray, List.set_cons_zero, List.set_cons_succ]
                refine AnyBut.takeS (i := 7) (v := ?v32) rfl (by kernel_rfl) (Nat.le_of_eq (by kernel_rfl)) (by kernel_rfl) (by kernel_rfl) (fun _ _ _ h => h) (HS6.out) (Or.inl ⟨by kernel_rfl, ?hy32⟩) ?r32
                case hy32 =>
                  intro w hSw
                  try dsimp only at hSw
                  go_simp
                  first | (obtain ⟨y0, y1⟩ := hSw; go_simp) | skip
                  try with_reducible rfl
                try simp only [Act.put, List.getElem_toArray, List.getElem_cons_succ, List.getElem_cons_zero, List.setIfInBounds_toArray, List.set_cons_zero, List.set_cons_succ]
                refine AnyBut.takeS (i := 8) (v := ?v33) rfl (by kernel_rfl) (Nat.le_of_eq (by kernel_rfl)) (by kernel_rfl) (by kernel_rfl) (fun _ _ _ h => h) (HS6.out) (Or.inl ⟨by kernel_rfl, ?hy33⟩) ?r33
                case hy33 =>
                  intro w hSw
                  try dsimp only at hSw
                  go_simp
                  first | (obtain ⟨y0, y1⟩ := hSw; go_simp) | skip
                  try with_reducible rfl
                try simp only [Act.put, List.getElem_toArray, List.getElem_cons_succ, List.getElem_cons_zero, List.setIfInBounds_toArray, List.set_cons_zero, List.set_cons_succ]
                refine AnyBut.takeS (i := 9) (v := ?v34) rfl (by kernel_rfl) (Nat.le_of_eq (by kernel_rfl)) (by kernel_rfl) (by kernel_rfl) (fun _ _ _ h => h) (HS6.out) (Or.inl ⟨by kernel_rfl, ?hy34⟩) ?r34
                case hy34 =>
                  intro w hSw
                  try dsimp only at hSw
                  go_simp
                  first | (obtain ⟨y0, y1⟩ := hSw; go_simp) | skip
                  try with_reducible rfl
                try simp only [Act.put, List.getElem_toArray, List.getElem_cons_succ, List.getElem_cons_zero, List.setIfInBounds_toArray, List.set_cons_zero, List.set_cons_succ]
                refine AnyBut.takeS (i := 10) (v := ?v35) rfl (by kernel_rfl) (Nat.le_of_eq (by kernel_rfl)) (by kernel_rfl) (by kernel_rfl) (fun _ _ _ h => h) (HS6.out) (Or.inl ⟨by kernel_rfl, ?hy35⟩) ?r35
                case hy35 =>
                  intro w hSw
                  try dsimp only at hSw
                  go_simp
                  first | (obtain ⟨y0, y1⟩ := hSw; go_simp) | skip
                  try with_reducible rfl
                try simp only [Act.put, List.getElem_toArray, List.getElem_cons_succ, List.getElem_cons_zero, List.setIfInBounds_toArray, List.set_cons_zero, List.set_cons_succ]
                refine AnyBut.takeS (i := 11) (v := ?v36) rfl (by kernel_rfl) (Nat.le_of_eq (by kernel_rfl)) (by kernel_rfl) (by kernel_rfl) (fun _ _ _ h => h) (HS6.out) (Or.inl ⟨by kernel_rfl, ?hy36⟩) ?r36
                case hy36 =>
                  intro w hSw
                  try dsimp only at hSw
                  go_simp
                  first | (obtain ⟨y0, y1⟩ := hSw; go_simp) | skip
                  try with_reducible rfl
                try simp only [Act.put, List.getElem_toArray, List.getElem_cons_succ, List.getElem_cons_zero, List.setIfInBounds_toArray, List.set_cons_zero, List.set_cons_succ]
                refine AnyBut.takeS (i := 12) (v := ?v37) rfl (by kernel_rfl) (Nat.le_of_eq (by kernel_rfl)) (by kernel_rfl) (by kernel_rfl) (fun _ _ _ h => h) (HS6.out) (Or.inl ⟨by kernel_rfl, ?hy37⟩) ?r37
                case hy37 =>
                  intro w hSw
                  try dsimp only at hSw
                  go_simp
                  first | (obtain ⟨y0, y1⟩ := hSw; go_simp) | skip
                  try with_reducible rfl
                try simp only [Act.put, List.getElem_toArray, List.getElem_cons_succ, List.getElem_cons_zero, List.setIfInBounds_toArray, List.set_cons_zero, List.set_cons_succ]
                refine AnyBut.takeS (i := 13) (v := ?v38) rfl (by kernel_rfl) (Nat.le_of_eq (by kernel_rfl)) (by kernel_rfl) (by kernel_rfl) (fun _ _ _ h => h) (HS6.out) (Or.inl ⟨by kernel_rfl, ?hy38⟩) ?r38
                case hy38 =>
                  intro w hSw
                  try dsimp only at hSw
                  go_simp
                  first | (obtain ⟨y0, y1⟩ := hSw; go_simp) | skip
                  try with_reducible rfl
                try simp only [Act.put, List.getElem_toArray, List.getElem_cons_succ, List.getElem_cons_zero, List.setIfInBounds_toArray, List.set_cons_zero, List.set_cons_succ]
                refine AnyBut.takeS (i := 14) (v := ?v39) rfl (by kernel_rfl) (Nat.le_of_eq (by kernel_rfl)) (by kernel_rfl) (by kernel_rfl) (fun _ _ _ h => h) (HS6.out) (Or.inl ⟨by kernel_rfl, ?hy39⟩) ?r39
                case hy39 =>
                  intro w hSw
                  try dsimp only at hSw
                  go_simp
                  first | (obtain ⟨y0, y1⟩ := hSw; go_simp) | skip
                  try with_reducible rfl
                try simp only [Act.put, List.getElem_toArray, List.getElem_cons_succ, List.getElem_cons_zero, List.setIfInBounds_toArray, List.set_cons_zero, List.set_cons_succ]
                refine AnyBut.done (by kernel_rfl) ?_
                go_wp2
                go_ret
                exact ⟨by rw [HX.out]; rfl, HK1.out.trans HK6.out⟩
              have q3 : decide (31 < flags) = false := decide_eq_false hf1
              have HC4 := Lib.hid (HC3.out.trans (if_neg (fun x => x.elim (fun h => by cases h) (fun x => x.elim hf0 hf1))))
              clear hf0 hf1
              go_upto_region 8 with fail
              have hneq := HNEQ.out
              refine AnyBut.start (S := fun w' => w'.heap[q]? = some (.cells #[.string name, .slice aa al ac, .int .i64 kind, .int .i64 temp, .bool true, .int .i64 start, .int .i64 time, .int .i64 whole, .int .u64 re, .int .u64 im, .int .i64 sc, .int .u64 (ze : Int), .int .i64 po, .slice pa m pc, .int .i64 no, .slice na n nc, .int .i64 flags] 30 (0, 0)) ∧ w'.cell? ⟨q, 16, none⟩ = some (.int .i64 flags)) (k := 15) (by kernel_rfl) ?_
              refine AnyBut.takeS (i := 0) (v := ?v40) rfl (by kernel_rfl) (Nat.le_of_eq (by kernel_rfl)) (by kernel_rfl) (by kernel_rfl) (fun _ _ _ h => h) (HS4.out) (Or.inl ⟨by kernel_rfl, ?hy40⟩) ?r40
              case hy40 =>
                intro w hSw
                try dsimp only at hSw
                refine exec_load_row 30 (.tmp 1) ?_ q ?_ 30 _ (0, 0) _ hSw.1 Tryz.underlying30 rfl point_info
                · rfl
                · rfl
              try simp only [Act.put, List.getElem_toArray, List.getElem_cons_zero, List.setIfInBounds_toArray, List.set_cons_zero, List.set_cons_succ]
              refine AnyBut.takeS (i := 2) (v := ?v41) rfl (by kernel_rfl) (Nat.le_of_eq (by kernel_rfl)) (by kernel_rfl) (by kernel_rfl) (fun _ _ _ h => h) (HS4.out) (Or.inl ⟨by kernel_rfl, ?hy41⟩) ?r41
              case hy41 =>
                intro w hSw
                try dsimp only at hSw
                refine exec_load_row 30 (.tmp 1) ?_ q ?_ 30 _ (0, 0) _ hSw.1 Tryz.underlying30 rfl point_info
                · rfl
                · rfl
              try simp only [Act.put, List.getElem_toArray, List.getElem_cons_succ, List.getElem_cons_zero, List.setIfInBounds_toArray, List.set_cons_zero, List.set_cons_succ]
              refine AnyBut.one (i := 1) (by kernel_rfl) rfl (fun K hK => ?_)
              go_simp
              go_wp2_with fail
              refine (HVO.out _).mono ?_
              rintro e w5 ⟨rfl, k5⟩
              have HK5 := Lib.hid (HK4.out.trans k5)
              have HS5 := Lib.hid (HSS.out w5 HK5.out)
              clear k5
              go_wp2
              refine hK.out _ _ (HS5.out) ?_
              clear hK K
              try simp only [Act.put, List.getElem_toArray, List.getElem_cons_succ, List.getElem_cons_zero, List.setIfInBounds_toArray, List.set_cons_zero, List.set_cons_succ]
              refine AnyBut.one (i := 3) (by kernel_rfl) rfl (fun K hK => ?_)
              go_simp
              go_wp2_with fail
              refine (HOW.out _).mono ?_
              rintro e w6 ⟨rfl, k6⟩
              have HK6 := Lib.hid (HK5.out.trans k6)
              have HS6 := Lib.hid (HSS.out w6 HK6.out)
              clear k6
              go_wp2
              refine hK.out _ _ (HS6.out) ?_
              clear hK K
              try simp only [Act.put, List.getElem_toArray, List.getElem_cons_succ, List.getElem_cons_zero, List.setIfInBounds_toArray, List.set_cons_zero, List.set_cons_succ]
              refine AnyBut.takeS (i := 4) (v := ?v42) rfl (by kernel_rfl) (Nat.le_of_eq (by kernel_rfl)) (by kernel_rfl) (by kernel_rfl) (fun _ _ _ h => h) (HS6.out) (Or.inl ⟨by kernel_rfl, ?hy42⟩) ?r42
              case hy42 =>
                intro w hSw
                try dsimp only at hSw
                go_simp
                first | (obtain ⟨y0, y1⟩ := hSw; go_simp) | skip
                try with_reducible rfl
              try simp only [Act.put, List.getElem_toArray, List.getElem_cons_succ, List.getElem_cons_zero, List.setIfInBounds_toArray, List.set_cons_zero, List.set_cons_succ]
              refine AnyBut.takeS (i := 5) (v := ?v43) rfl (by kernel_rfl) (Nat.le_of_eq (by kernel_rfl)) (by kernel_rfl) (by kernel_rfl) (fun _ _ _ h => h) (HS6.out) (Or.inl ⟨by kernel_rfl, ?hy43⟩) ?r43
              case hy43 =>
                intro w hSw
                try dsimp only at hSw
                go_simp
                first | (obtain ⟨y0, y1⟩ := hSw; go_simp) | skip
                try with_reducible rfl
              try simp only [Act.put, List.getElem_toArray, List.getElem_cons_succ, List.getElem_cons_zero, List.setIfInBounds_toArray, List.set_cons_zero, List.set_cons_succ]
              refine AnyBut.takeS (i := 6) (v := ?v44) rfl (by kernel_rfl) (Nat.le_of_eq (by kernel_rfl)) (by kernel_rfl) (by kernel_rfl) (fun _ _ _ h => h) (HS6.out) (Or.inl ⟨by kernel_rfl, ?hy44⟩) ?r44
              case hy44 =>
                intro w hSw
                try dsimp only at hSw
                go_simp
                first | (obtain ⟨y0, y1⟩ := hSw; go_simp) | skip
                try with_reducible rfl
              try simp only [Act.put, List.getElem_toArray, List.getElem_cons_succ, List.getElem_cons_zero, List.setIfInBounds_toArray, List.set_cons_zero, List.set_cons_succ]
              refine AnyBut.takeS (i := 7) (v := ?v45) rfl (by kernel_rfl) (Nat.le_of_eq (by kernel_rfl)) (by kernel_rfl) (by kernel_rfl) (fun _ _ _ h => h) (HS6.out) (Or.inl ⟨by kernel_rfl, ?hy45⟩) ?r45
              case hy45 =>
                intro w hSw
                try dsimp only at hSw
                go_simp
                first | (obtain ⟨y0, y1⟩ := hSw; go_simp) | skip
                try with_reducible rfl
              try simp only [Act.put, List.getElem_toArray, List.getElem_cons_succ, List.getElem_cons_zero, List.setIfInBounds_toArray, List.set_cons_zero, List.set_cons_succ]
              refine AnyBut.takeS (i := 8) (v := ?v46) rfl (by kernel_rfl) (Nat.le_of_eq (by kernel_rfl)) (by kernel_rfl) (by kernel_rfl) (fun _ _ _ h => h) (HS6.out) (Or.inl ⟨by kernel_rfl, ?hy46⟩) ?r46
              case hy46 =>
                intro w hSw
                try dsimp only at hSw
                go_simp
                first | (obtain ⟨y0, y1⟩ := hSw; go_simp) | skip
                try with_reducible rfl
              try simp only [Act.put, List.getElem_toArray, List.getElem_cons_succ, List.getElem_cons_zero, List.setIfInBounds_toArray, List.set_cons_zero, List.set_cons_succ]
              refine AnyBut.takeS (i := 9) (v := ?v47) rfl (by kernel_rfl) (Nat.le_of_eq (by kernel_rfl)) (by kernel_rfl) (by kernel_rfl) (fun _ _ _ h => h) (HS6.out) (Or.inl ⟨by kernel_rfl, ?hy47⟩) ?r47
              case hy47 =>
                intro w hSw
                try dsimp only at hSw
                go_simp
                first | (obtain ⟨y0, y1⟩ := hSw; go_simp) | skip
                try with_reducible rfl
              try simp only [Act.put, List.getElem_toArray, List.getElem_cons_succ, List.getElem_cons_zero, List.setIfInBounds_toArray, List.set_cons_zero, List.set_cons_succ]
              refine AnyBut.takeS (i := 10) (v := ?v48) rfl (by kernel_rfl) (Nat.le_of_eq (by kernel_rfl)) (by kernel_rfl) (by kernel_rfl) (fun _ _ _ h => h) (HS6.out) (Or.inl ⟨by kernel_rfl, ?hy48⟩) ?r48
              case hy48 =>
                intro w hSw
                try dsimp only at hSw
                go_simp
                first | (obtain ⟨y0, y1⟩ := hSw; go_simp) | skip
                try with_reducible rfl
              try simp only [Act.put, List.getElem_toArray, List.getElem_cons_succ, List.getElem_cons_zero, List.setIfInBounds_toArray, List.set_cons_zero, List.set_cons_succ]
              refine AnyBut.takeS (i := 11) (v := ?v49) rfl (by kernel_rfl) (Nat.le_of_eq (by kernel_rfl)) (by kernel_rfl) (by kernel_rfl) (fun _ _ _ h => h) (HS6.out) (Or.inl ⟨by kernel_rfl, ?hy49⟩) ?r49
              case hy49 =>
                intro w hSw
                try dsimp only at hSw
                go_simp
                first | (obtain ⟨y0, y1⟩ := hSw; go_simp) | skip
                try with_reducible rfl
              try simp only [Act.put, List.getElem_toArray, List.getElem_cons_succ, List.getElem_cons_zero, List.setIfInBounds_toArray, List.set_cons_zero, List.set_cons_succ]
              refine AnyBut.takeS (i := 12) (v := ?v50) rfl (by kernel_rfl) (Nat.le_of_eq (by kernel_rfl)) (by kernel_rfl) (by kernel_rfl) (fun _ _ _ h => h) (HS6.out) (Or.inl ⟨by kernel_rfl, ?hy50⟩) ?r50
              case hy50 =>
                intro w hSw
                try dsimp only at hSw
                go_simp
                first | (obtain ⟨y0, y1⟩ := hSw; go_simp) | skip
                try with_reducible rfl
              try simp only [Act.put, List.getElem_toArray, List.getElem_cons_succ, List.getElem_cons_zero, List.setIfInBounds_toArray, List.set_cons_zero, List.set_cons_succ]
              refine AnyBut.takeS (i := 13) (v := ?v51) rfl (by kernel_rfl) (Nat.le_of_eq (by kernel_rfl)) (by kernel_rfl) (by kernel_rfl) (fun _ _ _ h => h) (HS6.out) (Or.inl ⟨by kernel_rfl, ?hy51⟩) ?r51
              case hy51 =>
                intro w hSw
                try dsimp only at hSw
                go_simp
                first | (obtain ⟨y0, y1⟩ := hSw; go_simp) | skip
                try with_reducible rfl
              try simp only [Act.put, List.getElem_toArray, List.getElem_cons_succ, List.getElem_cons_zero, List.setIfInBounds_toArray, List.set_cons_zero, List.set_cons_succ]
              refine AnyBut.takeS (i := 14) (v := ?v52) rfl (by kernel_rfl) (Nat.le_of_eq (by kernel_rfl)) (by kernel_rfl) (by kernel_rfl) (fun _ _ _ h => h) (HS6.out) (Or.inl ⟨by kernel_rfl, ?hy52⟩) ?r52
              case hy52 =>
                intro w hSw
                try dsimp only at hSw
                go_simp
                first | (obtain ⟨y0, y1⟩ := hSw; go_simp) | skip
                try with_reducible rfl
              try simp only [Act.put, List.getElem_toArray, List.getElem_cons_succ, List.getElem_cons_zero, List.setIfInBounds_toArray, List.set_cons_zero, List.set_cons_succ]
              refine AnyBut.done (by kernel_rfl) ?_
              obtain ⟨_, _, _, _, c4, _, _, c7, c8, _, c10, c11, c12, c13, c14, c15, _⟩ := HPS.out w6 (HK6.out)
              go_wp2_with fail
              refine (HFI.out w6).mono ?_
              rintro e w6' ⟨rfl, rfl⟩
              cases FB with
              | false =>
                have HX : Hid (CK = 11) := Lib.hid (by rw [HC4.out, if_pos rfl])
                go_wp2
                go_ret
                exact ⟨by rw [HX.out]; rfl, HK1.out.trans HK6.out⟩
              | true =>
                have HC5 := Lib.hid (HC4.out.trans (if_neg (by decide)))
                by_cases hw0 : whole < 0
                · have q4 : decide (whole < 0) = true := decide_eq_true hw0
                  have HX : Hid (CK = 1) := Lib.hid (by rw [HC5.out, if_pos (.inl hw0)])
                  clear hw0
                  go_wp2
                  go_ret
                  exact ⟨by rw [HX.out]; rfl, HK1.out.trans HK6.out⟩
                have q4 : decide (whole < 0) = false := decide_eq_false hw0
                have HC6 : Hid (CK = if LB = true then 1 else HE) := Lib.hid (by rw [HC5.out]; simp [hw0])
                clear hw0
                go_wp2_with fail
                refine (HLE.out w6).mono ?_
                rintro e w6' ⟨rfl, rfl⟩
                cases LB with
                | true =>
                  have HX : Hid (CK = 1) := Lib.hid (by rw [HC6.out, if_pos rfl])
                  go_wp2
                  go_ret
                  exact ⟨by rw [HX.out]; rfl, HK1.out.trans HK6.out⟩
                | false =>
                  have HX : Hid (CK = HE) := Lib.hid (HC6.out.trans (if_neg (by decide)))
                  go_wp2_with fail
                  refine (HHC.out w6 (HK1.out.trans HK6.out)).mono ?_
                  rintro e w7 ⟨rfl, k7⟩
                  have HK7 := Lib.hid (HK6.out.trans k7)
                  clear k7
                  go_wp2
                  go_ret
                  exact ⟨by rw [HX.out]; rfl, HK1.out.trans HK7.out⟩
      | false =>
        go_wp2_with (first
          | (refine wpList_load_row rfl 30 (.tmp 1) rfl q rfl 30 _ (0, 0) _ HB3.out Tryz.underlying30 rfl point_info ?_)
          | (refine wpList_load_rowG rfl 30 (.tmp 1) rfl q rfl 30 _ (0, 0) _ HB3.out Tryz.underlying30 rfl point_info ?_)
          | fail)
        refine (HTR.out w3).mono ?_
        rintro e w4 ⟨rfl, k4⟩
        have HK4u := Lib.hid (HK3.out.trans k4)
        have HK4 := Lib.hid (HK4u.out.drew)
        clear k4
        cases TB with
        | false =>
          have HX : Hid (CK = 1) := Lib.hid (by rw [HCK.out, if_neg (by decide), if_neg (by decide), if_pos (by simp)])
          go_wp2
          go_ret
          exact ⟨by rw [HX.out]; rfl, HK1.out.trans HK4u.out⟩
        | true =>
          have HC3 : Hid (CK = if OB = false ∨ flags < 0 ∨ 31 < flags then 3 else HE) := Lib.hid (by rw [HCK.out, if_neg (by decide), if_neg (by decide), if_neg (by simp)]; simp)
          have HS4 := Lib.hid (HSS.out w4.drew HK4.out)
          clear c2 c4
          cases OB with
          | false =>
            have HX : Hid (CK = 3) := Lib.hid (by rw [HC3.out, if_pos (.inl rfl)])
            go_upto_region 8 with fail
            have hneq := HNEQ.out
            refine AnyBut.start (S := fun w' => w'.heap[q]? = some (.cells #[.string name, .slice aa al ac, .int .i64 kind, .int .i64 temp, .bool false, .int .i64 start, .int .i64 time, .int .i64 whole, .int .u64 re, .int .u64 im, .int .i64 sc, .int .u64 (ze : Int), .int .i64 po, .slice pa m pc, .int .i64 no, .slice na n nc, .int .i64 flags] 30 (0, 0)) ∧ w'.cell? ⟨q, 16, none⟩ = some (.int .i64 flags)) (k := 15) (by kernel_rfl) ?_
            refine AnyBut.takeS (i := 0) (v := ?v53) rfl (by kernel_rfl) (Nat.le_of_eq (by kernel_rfl)) (by kernel_rfl) (by kernel_rfl) (fun _ _ _ h => h) (HS4.out) (Or.inl ⟨by kernel_rfl, ?hy53⟩) ?r53
            case hy53 =>
              intro w hSw
              try dsimp only at hSw
              refine exec_load_row 30 (.tmp 1) ?_ q ?_ 30 _ (0, 0) _ hSw.1 Tryz.underlying30 rfl point_info
              · rfl
              · rfl
            try simp only [Act.put, List.getElem_toArray, List.getElem_cons_zero, List.setIfInBounds_toArray, List.set_cons_zero, List.set_cons_succ]
            refine AnyBut.takeS (i := 2) (v := ?v54) rfl (by kernel_rfl) (Nat.le_of_eq (by kernel_rfl)) (by kernel_rfl) (by kernel_rfl) (fun _ _ _ h => h) (HS4.out) (Or.inl ⟨by kernel_rfl, ?hy54⟩) ?r54
            case hy54 =>
              intro w hSw
              try dsimp only at hSw
              refine exec_load_row 30 (.tmp 1) ?_ q ?_ 30 _ (0, 0) _ hSw.1 Tryz.underlying30 rfl point_info
              · rfl
              · rfl
            try simp only [Act.put, List.getElem_toArray, List.getElem_cons_succ, List.getElem_cons_zero, List.setIfInBounds_toArray, List.set_cons_zero, List.set_cons_succ]
            refine AnyBut.one (i := 1) (by kernel_rfl) rfl (fun K hK => ?_)
            go_simp
            go_wp2_with fail
            refine (HVO.out _).mono ?_
            rintro e w5 ⟨rfl, k5⟩
            have HK5 := Lib.hid (HK4.out.trans k5)
            have HS5 := Lib.hid (HSS.out w5 HK5.out)
            clear k5
            go_wp2
            refine hK.out _ _ (HS5.out) ?_
            clear hK K
            try simp only [Act.put, List.getElem_toArray, List.getElem_cons_succ, List.getElem_cons_zero, List.setIfInBounds_toArray, List.set_cons_zero, List.set_cons_succ]
            refine AnyBut.one (i := 3) (by kernel_rfl) rfl (fun K hK => ?_)
            go_simp
            go_wp2_with fail
            refine (HOW.out _).mono ?_
            rintro e w6 ⟨rfl, k6⟩
            have HK6 := Lib.hid (HK5.out.trans k6)
            have HS6 := Lib.hid (HSS.out w6 HK6.out)
            clear k6
            go_wp2
            refine hK.out _ _ (HS6.out) ?_
            clear hK K
            try simp only [Act.put, List.getElem_toArray, List.getElem_cons_succ, List.getElem_cons_zero, List.setIfInBounds_toArray, List.set_cons_zero, List.set_cons_succ]
            refine AnyBut.takeS (i := 4) (v := ?v55) rfl (by kernel_rfl) (Nat.le_of_eq (by kernel_rfl)) (by kernel_rfl) (by kernel_rfl) (fun _ _ _ h => h) (HS6.out) (Or.inl ⟨by kernel_rfl, ?hy55⟩) ?r55
            case hy55 =>
              intro w hSw
              try dsimp only at hSw
              go_simp
              first | (obtain ⟨y0, y1⟩ := hSw; go_simp) | skip
              try with_reducible rfl
            try simp only [Act.put, List.getElem_toArray, List.getElem_cons_succ, List.getElem_cons_zero, List.setIfInBounds_toArray, List.set_cons_zero, List.set_cons_succ]
            refine AnyBut.takeS (i := 5) (v := ?v56) rfl (by kernel_rfl) (Nat.le_of_eq (by kernel_rfl)) (by kernel_rfl) (by kernel_rfl) (fun _ _ _ h => h) (HS6.out) (Or.inl ⟨by kernel_rfl, ?hy56⟩) ?r56
            case hy56 =>
              intro w hSw
              try dsimp only at hSw
              go_simp
              first | (obtain ⟨y0, y1⟩ := hSw; go_simp) | skip
              try with_reducible rfl
            try simp only [Act.put, List.getElem_toArray, List.getElem_cons_succ, List.getElem_cons_zero, List.setIfInBounds_toArray, List.set_cons_zero, List.set_cons_succ]
            refine AnyBut.takeS (i := 6) (v := undef) rfl (by kernel_rfl) (Nat.le_of_eq (by kernel_rfl)) (by kernel_rfl) (by kernel_rfl) (fun _ _ _ h => h) (HS6.out) (Or.inr ⟨by kernel_rfl, rfl⟩) ?r57
            try simp only [Act.put, List.getElem_toArray, List.getElem_cons_succ, List.getElem_cons_zero, List.setIfInBounds_toArray, List.set_cons_zero, List.set_cons_succ]
            refine AnyBut.takeS (i := 7) (v := undef) rfl (by kernel_rfl) (Nat.le_of_eq (by kernel_rfl)) (by kernel_rfl) (by kernel_rfl) (fun _ _ _ h => h) (HS6.out) (Or.inr ⟨by kernel_rfl, rfl⟩) ?r58
            try simp only [Act.put, List.getElem_toArray, List.getElem_cons_succ, List.getElem_cons_zero, List.setIfInBounds_toArray, List.set_cons_zero, List.set_cons_succ]
            refine AnyBut.takeS (i := 8) (v := undef) rfl (by kernel_rfl) (Nat.le_of_eq (by kernel_rfl)) (by kernel_rfl) (by kernel_rfl) (fun _ _ _ h => h) (HS6.out) (Or.inr ⟨by kernel_rfl, rfl⟩) ?r59
            try simp only [Act.put, List.getElem_toArray, List.getElem_cons_succ, List.getElem_cons_zero, List.setIfInBounds_toArray, List.set_cons_zero, List.set_cons_succ]
            refine AnyBut.takeS (i := 9) (v := ?v60) rfl (by kernel_rfl) (Nat.le_of_eq (by kernel_rfl)) (by kernel_rfl) (by kernel_rfl) (fun _ _ _ h => h) (HS6.out) (Or.inl ⟨by kernel_rfl, ?hy60⟩) ?r60
            case hy60 =>
              intro w hSw
              try dsimp only at hSw
              go_simp
              first | (obtain ⟨y0, y1⟩ := hSw; go_simp) | skip
              try with_reducible rfl
            try simp only [Act.put, List.getElem_toArray, List.getElem_cons_succ, List.getElem_cons_zero, List.setIfInBounds_toArray, List.set_cons_zero, List.set_cons_succ]
            refine AnyBut.takeS (i := 10) (v := ?v61) rfl (by kernel_rfl) (Nat.le_of_eq (by kernel_rfl)) (by kernel_rfl) (by kernel_rfl) (fun _ _ _ h => h) (HS6.out) (Or.inl ⟨by kernel_rfl, ?hy61⟩) ?r61
            case hy61 =>
              intro w hSw
              try dsimp only at hSw
              go_simp
              first | (obtain ⟨y0, y1⟩ := hSw; go_simp) | skip
              try with_reducible rfl
            try simp only [Act.put, List.getElem_toArray, List.getElem_cons_succ, List.getElem_cons_zero, List.setIfInBounds_toArray, List.set_cons_zero, List.set_cons_succ]
            refine AnyBut.takeS (i := 11) (v := undef) rfl (by kernel_rfl) (Nat.le_of_eq (by kernel_rfl)) (by kernel_rfl) (by kernel_rfl) (fun _ _ _ h => h) (HS6.out) (Or.inr ⟨by kernel_rfl, rfl⟩) ?r62
            try simp only [Act.put, List.getElem_toArray, List.getElem_cons_succ, List.getElem_cons_zero, List.setIfInBounds_toArray, List.set_cons_zero, List.set_cons_succ]
            refine AnyBut.takeS (i := 12) (v := undef) rfl (by kernel_rfl) (Nat.le_of_eq (by kernel_rfl)) (by kernel_rfl) (by kernel_rfl) (fun _ _ _ h => h) (HS6.out) (Or.inr ⟨by kernel_rfl, rfl⟩) ?r63
            try simp only [Act.put, List.getElem_toArray, List.getElem_cons_succ, List.getElem_cons_zero, List.setIfInBounds_toArray, List.set_cons_zero, List.set_cons_succ]
            refine AnyBut.takeS (i := 13) (v := undef) rfl (by kernel_rfl) (Nat.le_of_eq (by kernel_rfl)) (by kernel_rfl) (by kernel_rfl) (fun _ _ _ h => h) (HS6.out) (Or.inr ⟨by kernel_rfl, rfl⟩) ?r64
            try simp only [Act.put, List.getElem_toArray, List.getElem_cons_succ, List.getElem_cons_zero, List.setIfInBounds_toArray, List.set_cons_zero, List.set_cons_succ]
            refine AnyBut.takeS (i := 14) (v := ?v65) rfl (by kernel_rfl) (Nat.le_of_eq (by kernel_rfl)) (by kernel_rfl) (by kernel_rfl) (fun _ _ _ h => h) (HS6.out) (Or.inl ⟨by kernel_rfl, ?hy65⟩) ?r65
            case hy65 =>
              intro w hSw
              try dsimp only at hSw
              go_simp
              first | (obtain ⟨y0, y1⟩ := hSw; go_simp) | skip
              try with_reducible rfl
            try simp only [Act.put, List.getElem_toArray, List.getElem_cons_succ, List.getElem_cons_zero, List.setIfInBounds_toArray, List.set_cons_zero, List.set_cons_succ]
            refine AnyBut.done (by kernel_rfl) ?_
            go_wp2
            go_ret
            exact ⟨by rw [HX.out]; rfl, HK1.out.trans HK6.out⟩
          | true =>
            by_cases hf0 : flags < 0
            · have q2 : decide (flags < 0) = true := decide_eq_true hf0
              have HX : Hid (CK = 3) := Lib.hid (by rw [HC3.out, if_pos (.inr (.inl hf0))])
              clear hf0
              go_upto_region 8 with fail
              have hneq := HNEQ.out
              refine AnyBut.start (S := fun w' => w'.heap[q]? = some (.cells #[.string name, .slice aa al ac, .int .i64 kind, .int .i64 temp, .bool false, .int .i64 start, .int .i64 time, .int .i64 whole, .int .u64 re, .int .u64 im, .int .i64 sc, .int .u64 (ze : Int), .int .i64 po, .slice pa m pc, .int .i64 no, .slice na n nc, .int .i64 flags] 30 (0, 0)) ∧ w'.cell? ⟨q, 16, none⟩ = some (.int .i64 flags)) (k := 15) (by kernel_rfl) ?_
              refine AnyBut.takeS (i := 0) (v := ?v66) rfl (by kernel_rfl) (Nat.le_of_eq (by kernel_rfl)) (by kernel_rfl) (by kernel_rfl) (fun _ _ _ h => h) (HS4.out) (Or.inl ⟨by kernel_rfl, ?hy66⟩) ?r66
              case hy66 =>
                intro w hSw
                try dsimp only at hSw
                refine exec_load_row 30 (.tmp 1) ?_ q ?_ 30 _ (0, 0) _ hSw.1 Tryz.underlying30 rfl point_info
                · rfl
                · rfl
              try simp only [Act.put, List.getElem_toArray, List.getElem_cons_zero, List.setIfInBounds_toArray, List.set_cons_zero, List.set_cons_succ]
              refine AnyBut.takeS (i := 2) (v := ?v67) rfl (by kernel_rfl) (Nat.le_of_eq (by kernel_rfl)) (by kernel_rfl) (by kernel_rfl) (fun _ _ _ h => h) (HS4.out) (Or.inl ⟨by kernel_rfl, ?hy67⟩) ?r67
              case hy67 =>
                intro w hSw
                try dsimp only at hSw
                refine exec_load_row 30 (.tmp 1) ?_ q ?_ 30 _ (0, 0) _ hSw.1 Tryz.underlying30 rfl point_info
                · rfl
                · rfl
              try simp only [Act.put, List.getElem_toArray, List.getElem_cons_succ, List.getElem_cons_zero, List.setIfInBounds_toArray, List.set_cons_zero, List.set_cons_succ]
              refine AnyBut.one (i := 1) (by kernel_rfl) rfl (fun K hK => ?_)
              go_simp
              go_wp2_with fail
              refine (HVO.out _).mono ?_
              rintro e w5 ⟨rfl, k5⟩
              have HK5 := Lib.hid (HK4.out.trans k5)
              have HS5 := Lib.hid (HSS.out w5 HK5.out)
              clear k5
              go_wp2
              refine hK.out _ _ (HS5.out) ?_
              clear hK K
              try simp only [Act.put, List.getElem_toArray, List.getElem_cons_succ, List.getElem_cons_zero, List.setIfInBounds_toArray, List.set_cons_zero, List.set_cons_succ]
              refine AnyBut.one (i := 3) (by kernel_rfl) rfl (fun K hK => ?_)
              go_simp
              go_wp2_with fail
              refine (HOW.out _).mono ?_
              rintro e w6 ⟨rfl, k6⟩
              have HK6 := Lib.hid (HK5.out.trans k6)
              have HS6 := Lib.hid (HSS.out w6 HK6.out)
              clear k6
              go_wp2
              refine hK.out _ _ (HS6.out) ?_
              clear hK K
              try simp only [Act.put, List.getElem_toArray, List.getElem_cons_succ, List.getElem_cons_zero, List.setIfInBounds_toArray, List.set_cons_zero, List.set_cons_succ]
              refine AnyBut.takeS (i := 4) (v := ?v68) rfl (by kernel_rfl) (Nat.le_of_eq (by kernel_rfl)) (by kernel_rfl) (by kernel_rfl) (fun _ _ _ h => h) (HS6.out) (Or.inl ⟨by kernel_rfl, ?hy68⟩) ?r68
              case hy68 =>
                intro w hSw
                try dsimp only at hSw
                go_simp
                first | (obtain ⟨y0, y1⟩ := hSw; go_simp) | skip
                try with_reducible rfl
              try simp only [Act.put, List.getElem_toArray, List.getElem_cons_succ, List.getElem_cons_zero, List.setIfInBounds_toArray, List.set_cons_zero, List.set_cons_succ]
              refine AnyBut.takeS (i := 5) (v := ?v69) rfl (by kernel_rfl) (Nat.le_of_eq (by kernel_rfl)) (by kernel_rfl) (by kernel_rfl) (fun _ _ _ h => h) (HS6.out) (Or.inl ⟨by kernel_rfl, ?hy69⟩) ?r69
              case hy69 =>
                intro w hSw
                try dsimp only at hSw
                go_simp
                first | (obtain ⟨y0, y1⟩ := hSw; go_simp) | skip
                try with_reducible rfl
              try simp only [Act.put, List.getElem_toArray, List.getElem_cons_succ, List.getElem_cons_zero, List.setIfInBounds_toArray, List.set_cons_zero, List.set_cons_succ]
              refine AnyBut.takeS (i := 6) (v := ?v70) rfl (by kernel_rfl) (Nat.le_of_eq (by kernel_rfl)) (by kernel_rfl) (by kernel_rfl) (fun _ _ _ h => h) (HS6.out) (Or.inl ⟨by kernel_rfl, ?hy70⟩) ?r70
              case hy70 =>
                intro w hSw
                try dsimp only at hSw
                go_simp
                first | (obtain ⟨y0, y1⟩ := hSw; go_simp) | skip
                try with_reducible rfl
              try simp only [Act.put, List.getElem_toArray, List.getElem_cons_succ, List.getElem_cons_zero, List.setIfInBounds_toArray, List.set_cons_zero, List.set_cons_succ]
              refine AnyBut.takeS (i := 7) (v := ?v71) rfl (by kernel_rfl) (Nat.le_of_eq (by kernel_rfl)) (by kernel_rfl) (by kernel_rfl) (fun _ _ _ h => h) (HS6.out) (Or.inl ⟨by kernel_rfl, ?hy71⟩) ?r71
              case hy71 =>
                intro w hSw
                try dsimp only at hSw
                go_simp
                first | (obtain ⟨y0, y1⟩ := hSw; go_simp) | skip
                try with_reducible rfl
              try simp only [Act.put, List.getElem_toArray, List.getElem_cons_succ, List.getElem_cons_zero, List.setIfInBounds_toArray, List.set_cons_zero, List.set_cons_succ]
              refine AnyBut.takeS (i := 8) (v := ?v72) rfl (by kernel_rfl) (Nat.le_of_eq (by kernel_rfl)) (by kernel_rfl) (by kernel_rfl) (fun _ _ _ h => h) (HS6.out) (Or.inl ⟨by kernel_rfl, ?hy72⟩) ?r72
              case hy72 =>
                intro w hSw
                try dsimp only at hSw
                go_simp
                first | (obtain ⟨y0, y1⟩ := hSw; go_simp) | skip
                try with_reducible rfl
              try simp only [Act.put, List.getElem_toArray, List.getElem_cons_succ, List.getElem_cons_zero, List.setIfInBounds_toArray, List.set_cons_zero, List.set_cons_succ]
              refine AnyBut.takeS (i := 9) (v := ?v73) rfl (by kernel_rfl) (Nat.le_of_eq (by kernel_rfl)) (by kernel_rfl) (by kernel_rfl) (fun _ _ _ h => h) (HS6.out) (Or.inl ⟨by kernel_rfl, ?hy73⟩) ?r73
              case hy73 =>
                intro w hSw
                try dsimp only at hSw
                go_simp
                first | (obtain ⟨y0, y1⟩ := hSw; go_simp) | skip
                try with_reducible rfl
              try simp only [Act.put, List.getElem_toArray, List.getElem_cons_succ, List.getElem_cons_zero, List.setIfInBounds_toArray, List.set_cons_zero, List.set_cons_succ]
              refine AnyBut.takeS (i := 10) (v := ?v74) rfl (by kernel_rfl) (Nat.le_of_eq (by kernel_rfl)) (by kernel_rfl) (by kernel_rfl) (fun _ _ _ h => h) (HS6.out) (Or.inl ⟨by kernel_rfl, ?hy74⟩) ?r74
              case hy74 =>
                intro w hSw
                try dsimp only at hSw
                go_simp
                first | (obtain ⟨y0, y1⟩ := hSw; go_simp) | skip
                try with_reducible rfl
              try simp only [Act.put, List.getElem_toArray, List.getElem_cons_succ, List.getElem_cons_zero, List.setIfInBounds_toArray, List.set_cons_zero, List.set_cons_succ]
              refine AnyBut.takeS (i := 11) (v := undef) rfl (by kernel_rfl) (Nat.le_of_eq (by kernel_rfl)) (by kernel_rfl) (by kernel_rfl) (fun _ _ _ h => h) (HS6.out) (Or.inr ⟨by kernel_rfl, rfl⟩) ?r75
              try simp only [Act.put, List.getElem_toArray, List.getElem_cons_succ, List.getElem_cons_zero, List.setIfInBounds_toArray, List.set_cons_zero, List.set_cons_succ]
              refine AnyBut.takeS (i := 12) (v := undef) rfl (by kernel_rfl) (Nat.le_of_eq (by kernel_rfl)) (by kernel_rfl) (by kernel_rfl) (fun _ _ _ h => h) (HS6.out) (Or.inr ⟨by kernel_rfl, rfl⟩) ?r76
              try simp only [Act.put, List.getElem_toArray, List.getElem_cons_succ, List.getElem_cons_zero, List.setIfInBounds_toArray, List.set_cons_zero, List.set_cons_succ]
              refine AnyBut.takeS (i := 13) (v := undef) rfl (by kernel_rfl) (Nat.le_of_eq (by kernel_rfl)) (by kernel_rfl) (by kernel_rfl) (fun _ _ _ h => h) (HS6.out) (Or.inr ⟨by kernel_rfl, rfl⟩) ?r77
              try simp only [Act.put, List.getElem_toArray, List.getElem_cons_succ, List.getElem_cons_zero, List.setIfInBounds_toArray, List.set_cons_zero, List.set_cons_succ]
              refine AnyBut.takeS (i := 14) (v := ?v78) rfl (by kernel_rfl) (Nat.le_of_eq (by kernel_rfl)) (by kernel_rfl) (by kernel_rfl) (fun _ _ _ h => h) (HS6.out) (Or.inl ⟨by kernel_rfl, ?hy78⟩) ?r78
              case hy78 =>
                intro w hSw
                try dsimp only at hSw
                go_simp
                first | (obtain ⟨y0, y1⟩ := hSw; go_simp) | skip
                try with_reducible rfl
              try simp only [Act.put, List.getElem_toArray, List.getElem_cons_succ, List.getElem_cons_zero, List.setIfInBounds_toArray, List.set_cons_zero, List.set_cons_succ]
              refine AnyBut.done (by kernel_rfl) ?_
              go_wp2
              go_ret
              exact ⟨by rw [HX.out]; rfl, HK1.out.trans HK6.out⟩
            have q2 : decide (flags < 0) = false := decide_eq_false hf0
            by_cases hf1 : 31 < flags
            · have q3 : decide (31 < flags) = true := decide_eq_true hf1
              have HX : Hid (CK = 3) := Lib.hid (by rw [HC3.out, if_pos (.inr (.inr hf1))])
              clear hf0 hf1
              go_upto_region 8 with fail
              have hneq := HNEQ.out
              refine AnyBut.start (S := fun w' => w'.heap[q]? = some (.cells #[.string name, .slice aa al ac, .int .i64 kind, .int .i64 temp, .bool false, .int .i64 start, .int .i64 time, .int .i64 whole, .int .u64 re, .int .u64 im, .int .i64 sc, .int .u64 (ze : Int), .int .i64 po, .slice pa m pc, .int .i64 no, .slice na n nc, .int .i64 flags] 30 (0, 0)) ∧ w'.cell? ⟨q, 16, none⟩ = some (.int .i64 flags)) (k := 15) (by kernel_rfl) ?_
              refine AnyBut.takeS (i := 0) (v := ?v79) rfl (by kernel_rfl) (Nat.le_of_eq (by kernel_rfl)) (by kernel_rfl) (by kernel_rfl) (fun _ _ _ h => h) (HS4.out) (Or.inl ⟨by kernel_rfl, ?hy79⟩) ?r79
              case hy79 =>
                intro w hSw
                try dsimp only at hSw
                refine exec_load_row 30 (.tmp 1) ?_ q ?_ 30 _ (0, 0) _ hSw.1 Tryz.underlying30 rfl point_info
                · rfl
                · rfl
              try simp only [Act.put, List.getElem_toArray, List.getElem_cons_zero, List.setIfInBounds_toArray, List.set_cons_zero, List.set_cons_succ]
              refine AnyBut.takeS (i := 2) (v := ?v80) rfl (by kernel_rfl) (Nat.le_of_eq (by kernel_rfl)) (by kernel_rfl) (by kernel_rfl) (fun _ _ _ h => h) (HS4.out) (Or.inl ⟨by kernel_rfl, ?hy80⟩) ?r80
              case hy80 =>
                intro w hSw
                try dsimp only at hSw
                refine exec_load_row 30 (.tmp 1) ?_ q ?_ 30 _ (0, 0) _ hSw.1 Tryz.underlying30 rfl point_info
                · rfl
                · rfl
              try simp only [Act.put, List.getElem_toArray, List.getElem_cons_succ, List.getElem_cons_zero, List.setIfInBounds_toArray, List.set_cons_zero, List.set_cons_succ]
              refine AnyBut.one (i := 1) (by kernel_rfl) rfl (fun K hK => ?_)
              go_simp
              go_wp2_with fail
              refine (HVO.out _).mono ?_
              rintro e w5 ⟨rfl, k5⟩
              have HK5 := Lib.hid (HK4.out.trans k5)
              have HS5 := Lib.hid (HSS.out w5 HK5.out)
              clear k5
              go_wp2
              refine hK.out _ _ (HS5.out) ?_
              clear hK K
              try simp only [Act.put, List.getElem_toArray, List.getElem_cons_succ, List.getElem_cons_zero, List.setIfInBounds_toArray, List.set_cons_zero, List.set_cons_succ]
              refine AnyBut.one (i := 3) (by kernel_rfl) rfl (fun K hK => ?_)
              go_simp
              go_wp2_with fail
              refine (HOW.out _).mono ?_
              rintro e w6 ⟨rfl, k6⟩
              have HK6 := Lib.hid (HK5.out.trans k6)
              have HS6 := Lib.hid (HSS.out w6 HK6.out)
              clear k6
              go_wp2
              refine hK.out _ _ (HS6.out) ?_
              clear hK K
              try simp only [Act.put, List.getElem_toArray, List.getElem_cons_succ, List.getElem_cons_zero, List.setIfInBounds_toArray, List.set_cons_zero, List.set_cons_succ]
              refine AnyBut.takeS (i := 4) (v := ?v81) rfl (by kernel_rfl) (Nat.le_of_eq (by kernel_rfl)) (by kernel_rfl) (by kernel_rfl) (fun _ _ _ h => h) (HS6.out) (Or.inl ⟨by kernel_rfl, ?hy81⟩) ?r81
              case hy81 =>
                intro w hSw
                try dsimp only at hSw
                go_simp
                first | (obtain ⟨y0, y1⟩ := hSw; go_simp) | skip
                try with_reducible rfl
              try simp only [Act.put, List.getElem_toArray, List.getElem_cons_succ, List.getElem_cons_zero, List.setIfInBounds_toArray, List.set_cons_zero, List.set_cons_succ]
              refine AnyBut.takeS (i := 5) (v := ?v82) rfl (by kernel_rfl) (Nat.le_of_eq (by kernel_rfl)) (by kernel_rfl) (by kernel_rfl) (fun _ _ _ h => h) (HS6.out) (Or.inl ⟨by kernel_rfl, ?hy82⟩) ?r82
              case hy82 =>
                intro w hSw
                try dsimp only at hSw
                go_simp
                first | (obtain ⟨y0, y1⟩ := hSw; go_simp) | skip
                try with_reducible rfl
              try simp only [Act.put, List.getElem_toArray, List.getElem_cons_succ, List.getElem_cons_zero, List.setIfInBounds_toArray, List.set_cons_zero, List.set_cons_succ]
              refine AnyBut.takeS (i := 6) (v := ?v83) rfl (by kernel_rfl) (Nat.le_of_eq (by kernel_rfl)) (by kernel_rfl) (by kernel_rfl) (fun _ _ _ h => h) (HS6.out) (Or.inl ⟨by kernel_rfl, ?hy83⟩) ?r83
              case hy83 =>
                intro w hSw
                try dsimp only at hSw
                go_simp
                first | (obtain ⟨y0, y1⟩ := hSw; go_simp) | skip
                try with_reducible rfl
              try simp only [Act.put, List.getElem_toArray, List.getElem_cons_succ, List.getElem_cons_zero, List.setIfInBounds_toArray, List.set_cons_zero, List.set_cons_succ]
              refine AnyBut.takeS (i := 7) (v := ?v84) rfl (by kernel_rfl) (Nat.le_of_eq (by kernel_rfl)) (by kernel_rfl) (by kernel_rfl) (fun _ _ _ h => h) (HS6.out) (Or.inl ⟨by kernel_rfl, ?hy84⟩) ?r84
              case hy84 =>
                intro w hSw
                try dsimp only at hSw
                go_simp
                first | (obtain ⟨y0, y1⟩ := hSw; go_simp) | skip
                try with_reducible rfl
              try simp only [Act.put, List.getElem_toArray, List.getElem_cons_succ, List.getElem_cons_zero, List.setIfInBounds_toArray, List.set_cons_zero, List.set_cons_succ]
              refine AnyBut.takeS (i := 8) (v := ?v85) rfl (by kernel_rfl) (Nat.le_of_eq (by kernel_rfl)) (by kernel_rfl) (by kernel_rfl) (fun _ _ _ h => h) (HS6.out) (Or.inl ⟨by kernel_rfl, ?hy85⟩) ?r85
              case hy85 =>
                intro w hSw
                try dsimp only at hSw
                go_simp
                first | (obtain ⟨y0, y1⟩ := hSw; go_simp) | skip
                try with_reducible rfl
              try simp only [Act.put, List.getElem_toArray, List.getElem_cons_succ, List.getElem_cons_zero, List.setIfInBounds_toArray, List.set_cons_zero, List.set_cons_succ]
              refine AnyBut.takeS (i := 9) (v := ?v86) rfl (by kernel_rfl) (Nat.le_of_eq (by kernel_rfl)) (by kernel_rfl) (by kernel_rfl) (fun _ _ _ h => h) (HS6.out) (Or.inl ⟨by kernel_rfl, ?hy86⟩) ?r86
              case hy86 =>
                intro w hSw
                try dsimp only at hSw
                go_simp
                first | (obtain ⟨y0, y1⟩ := hSw; go_simp) | skip
                try with_reducible rfl
              try simp only [Act.put, List.getElem_toArray, List.getElem_cons_succ, List.getElem_cons_zero, List.setIfInBounds_toArray, List.set_cons_zero, List.set_cons_succ]
              refine AnyBut.takeS (i := 10) (v := ?v87) rfl (by kernel_rfl) (Nat.le_of_eq (by kernel_rfl)) (by kernel_rfl) (by kernel_rfl) (fun _ _ _ h => h) (HS6.out) (Or.inl ⟨by kernel_rfl, ?hy87⟩) ?r87
              case hy87 =>
                intro w hSw
                try dsimp only at hSw
                go_simp
                first | (obtain ⟨y0, y1⟩ := hSw; go_simp) | skip
                try with_reducible rfl
              try simp only [Act.put, List.getElem_toArray, List.getElem_cons_succ, List.getElem_cons_zero, List.setIfInBounds_toArray, List.set_cons_zero, List.set_cons_succ]
              refine AnyBut.takeS (i := 11) (v := ?v88) rfl (by kernel_rfl) (Nat.le_of_eq (by kernel_rfl)) (by kernel_rfl) (by kernel_rfl) (fun _ _ _ h => h) (HS6.out) (Or.inl ⟨by kernel_rfl, ?hy88⟩) ?r88
              case hy88 =>
                intro w hSw
                try dsimp only at hSw
                go_simp
                first | (obtain ⟨y0, y1⟩ := hSw; go_simp) | skip
                try with_reducible rfl
              try simp only [Act.put, List.getElem_toArray, List.getElem_cons_succ, List.getElem_cons_zero, List.setIfInBounds_toArray, List.set_cons_zero, List.set_cons_succ]
              refine AnyBut.takeS (i := 12) (v := ?v89) rfl (by kernel_rfl) (Nat.le_of_eq (by kernel_rfl)) (by kernel_rfl) (by kernel_rfl) (fun _ _ _ h => h) (HS6.out) (Or.inl ⟨by kernel_rfl, ?hy89⟩) ?r89
              case hy89 =>
                intro w hSw
                try dsimp only at hSw
                go_simp
                first | (obtain ⟨y0, y1⟩ := hSw; go_simp) | skip
                try with_reducible rfl
              try simp only [Act.put, List.getElem_toArray, List.getElem_cons_succ, List.getElem_cons_zero, List.setIfInBounds_toArray, List.set_cons_zero, List.set_cons_succ]
              refine AnyBut.takeS (i := 13) (v := ?v90) rfl (by kernel_rfl) (Nat.le_of_eq (by kernel_rfl)) (by kernel_rfl) (by kernel_rfl) (fun _ _ _ h => h) (HS6.out) (Or.inl ⟨by kernel_rfl, ?hy90⟩) ?r90
              case hy90 =>
                intro w hSw
                try dsimp only at hSw
                go_simp
                first | (obtain ⟨y0, y1⟩ := hSw; go_simp) | skip
                try with_reducible rfl
              try simp only [Act.put, List.getElem_toArray, List.getElem_cons_succ, List.getElem_cons_zero, List.setIfInBounds_toArray, List.set_cons_zero, List.set_cons_succ]
              refine AnyBut.takeS (i := 14) (v := ?v91) rfl (by kernel_rfl) (Nat.le_of_eq (by kernel_rfl)) (by kernel_rfl) (by kernel_rfl) (fun _ _ _ h => h) (HS6.out) (Or.inl ⟨by kernel_rfl, ?hy91⟩) ?r91
              case hy91 =>
                intro w hSw
                try dsimp only at hSw
                go_simp
                first | (obtain ⟨y0, y1⟩ := hSw; go_simp) | skip
                try with_reducible rfl
              try simp only [Act.put, List.getElem_toArray, List.getElem_cons_succ, List.getElem_cons_zero, List.setIfInBounds_toArray, List.set_cons_zero, List.set_cons_succ]
              refine AnyBut.done (by kernel_rfl) ?_
              go_wp2
              go_ret
              exact ⟨by rw [HX.out]; rfl, HK1.out.trans HK6.out⟩
            have q3 : decide (31 < flags) = false := decide_eq_false hf1
            have HC4 := Lib.hid (HC3.out.trans (if_neg (fun x => x.elim (fun h => by cases h) (fun x => x.elim hf0 hf1))))
            clear hf0 hf1
            go_upto_region 8 with fail
            have hneq := HNEQ.out
            refine AnyBut.start (S := fun w' => w'.heap[q]? = some (.cells #[.string name, .slice aa al ac, .int .i64 kind, .int .i64 temp, .bool false, .int .i64 start, .int .i64 time, .int .i64 whole, .int .u64 re, .int .u64 im, .int .i64 sc, .int .u64 (ze : Int), .int .i64 po, .slice pa m pc, .int .i64 no, .slice na n nc, .int .i64 flags] 30 (0, 0)) ∧ w'.cell? ⟨q, 16, none⟩ = some (.int .i64 flags)) (k := 15) (by kernel_rfl) ?_
            refine AnyBut.takeS (i := 0) (v := ?v92) rfl (by kernel_rfl) (Nat.le_of_eq (by kernel_rfl)) (by kernel_rfl) (by kernel_rfl) (fun _ _ _ h => h) (HS4.out) (Or.inl ⟨by kernel_rfl, ?hy92⟩) ?r92
            case hy92 =>
              intro w hSw
              try dsimp only at hSw
              refine exec_load_row 30 (.tmp 1) ?_ q ?_ 30 _ (0, 0) _ hSw.1 Tryz.underlying30 rfl point_info
              · rfl
              · rfl
            try simp only [Act.put, List.getElem_toArray, List.getElem_cons_zero, List.setIfInBounds_toArray, List.set_cons_zero, List.set_cons_succ]
            refine AnyBut.takeS (i := 2) (v := ?v93) rfl (by kernel_rfl) (Nat.le_of_eq (by kernel_rfl)) (by kernel_rfl) (by kernel_rfl) (fun _ _ _ h => h) (HS4.out) (Or.inl ⟨by kernel_rfl, ?hy93⟩) ?r93
            case hy93 =>
              intro w hSw
              try dsimp only at hSw
              refine exec_load_row 30 (.tmp 1) ?_ q ?_ 30 _ (0, 0) _ hSw.1 Tryz.underlying30 rfl point_info
              · rfl
              · rfl
            try simp only [Act.put, List.getElem_toArray, List.getElem_cons_succ, List.getElem_cons_zero, List.setIfInBounds_toArray, List.set_cons_zero, List.set_cons_succ]
            refine AnyBut.one (i := 1) (by kernel_rfl) rfl (fun K hK => ?_)
            go_simp
            go_wp2_with fail
            refine (HVO.out _).mono ?_
            rintro e w5 ⟨rfl, k5⟩
            have HK5 := Lib.hid (HK4.out.trans k5)
            have HS5 := Lib.hid (HSS.out w5 HK5.out)
            clear k5
            go_wp2
            refine hK.out _ _ (HS5.out) ?_
            clear hK K
            try simp only [Act.put, List.getElem_toArray, List.getElem_cons_succ, List.getElem_cons_zero, List.setIfInBounds_toArray, List.set_cons_zero, List.set_cons_succ]
            refine AnyBut.one (i := 3) (by kernel_rfl) rfl (fun K hK => ?_)
            go_simp
            go_wp2_with fail
            refine (HOW.out _).mono ?_
            rintro e w6 ⟨rfl, k6⟩
            have HK6 := Lib.hid (HK5.out.trans k6)
            have HS6 := Lib.hid (HSS.out w6 HK6.out)
            clear k6
            go_wp2
            refine hK.out _ _ (HS6.out) ?_
            clear hK K
            try simp only [Act.put, List.getElem_toArray, List.getElem_cons_succ, List.getElem_cons_zero, List.setIfInBounds_toArray, List.set_cons_zero, List.set_cons_succ]
            refine AnyBut.takeS (i := 4) (v := ?v94) rfl (by kernel_rfl) (Nat.le_of_eq (by kernel_rfl)) (by kernel_rfl) (by kernel_rfl) (fun _ _ _ h => h) (HS6.out) (Or.inl ⟨by kernel_rfl, ?hy94⟩) ?r94
            case hy94 =>
              intro w hSw
              try dsimp only at hSw
              go_simp
              first | (obtain ⟨y0, y1⟩ := hSw; go_simp) | skip
              try with_reducible rfl
            try simp only [Act.put, List.getElem_toArray, List.getElem_cons_succ, List.getElem_cons_zero, List.setIfInBounds_toArray, List.set_cons_zero, List.set_cons_succ]
            refine AnyBut.takeS (i := 5) (v := ?v95) rfl (by kernel_rfl) (Nat.le_of_eq (by kernel_rfl)) (by kernel_rfl) (by kernel_rfl) (fun _ _ _ h => h) (HS6.out) (Or.inl ⟨by kernel_rfl, ?hy95⟩) ?r95
            case hy95 =>
              intro w hSw
              try dsimp only at hSw
              go_simp
              first | (obtain ⟨y0, y1⟩ := hSw; go_simp) | skip
              try with_reducible rfl
            try simp only [Act.put, List.getElem_toArray, List.getElem_cons_succ, List.getElem_cons_zero, List.setIfInBounds_toArray, List.set_cons_zero, List.set_cons_succ]
            refine AnyBut.takeS (i := 6) (v := ?v96) rfl (by kernel_rfl) (Nat.le_of_eq (by kernel_rfl)) (by kernel_rfl) (by kernel_rfl) (fun _ _ _ h => h) (HS6.out) (Or.inl ⟨by kernel_rfl, ?hy96⟩) ?r96
            case hy96 =>
              intro w hSw
              try dsimp only at hSw
              go_simp
              first | (obtain ⟨y0, y1⟩ := hSw; go_simp) | skip
              try with_reducible rfl
            try simp only [Act.put, List.getElem_toArray, List.getElem_cons_succ, List.getElem_cons_zero, List.setIfInBounds_toArray, List.set_cons_zero, List.set_cons_succ]
            refine AnyBut.takeS (i := 7) (v := ?v97) rfl (by kernel_rfl) (Nat.le_of_eq (by kernel_rfl)) (by kernel_rfl) (by kernel_rfl) (fun _ _ _ h => h) (HS6.out) (Or.inl ⟨by kernel_rfl, ?hy97⟩) ?r97
            case hy97 =>
              intro w hSw
              try dsimp only at hSw
              go_simp
              first | (obtain ⟨y0, y1⟩ := hSw; go_simp) | skip
              try with_reducible rfl
            try simp only [Act.put, List.getElem_toArray, List.getElem_cons_succ, List.getElem_cons_zero, List.setIfInBounds_toArray, List.set_cons_zero, List.set_cons_succ]
            refine AnyBut.takeS (i := 8) (v := ?v98) rfl (by kernel_rfl) (Nat.le_of_eq (by kernel_rfl)) (by kernel_rfl) (by kernel_rfl) (fun _ _ _ h => h) (HS6.out) (Or.inl ⟨by kernel_rfl, ?hy98⟩) ?r98
            case hy98 =>
              intro w hSw
              try dsimp only at hSw
              go_simp
              first | (obtain ⟨y0, y1⟩ := hSw; go_simp) | skip
              try with_reducible rfl
            try simp only [Act.put, List.getElem_toArray, List.getElem_cons_succ, List.getElem_cons_zero, List.setIfInBounds_toArray, List.set_cons_zero, List.set_cons_succ]
            refine AnyBut.takeS (i := 9) (v := ?v99) rfl (by kernel_rfl) (Nat.le_of_eq (by kernel_rfl)) (by kernel_rfl) (by kernel_rfl) (fun _ _ _ h => h) (HS6.out) (Or.inl ⟨by kernel_rfl, ?hy99⟩) ?r99
            case hy99 =>
              intro w hSw
              try dsimp only at hSw
              go_simp
              first | (obtain ⟨y0, y1⟩ := hSw; go_simp) | skip
              try with_reducible rfl
            try simp only [Act.put, List.getElem_toArray, List.getElem_cons_succ, List.getElem_cons_zero, List.setIfInBounds_toArray, List.set_cons_zero, List.set_cons_succ]
            refine AnyBut.takeS (i := 10) (v := ?v100) rfl (by kernel_rfl) (Nat.le_of_eq (by kernel_rfl)) (by kernel_rfl) (by kernel_rfl) (fun _ _ _ h => h) (HS6.out) (Or.inl ⟨by kernel_rfl, ?hy100⟩) ?r100
            case hy100 =>
              intro w hSw
              try dsimp only at hSw
              go_simp
              first | (obtain ⟨y0, y1⟩ := hSw; go_simp) | skip
              try with_reducible rfl
            try simp only [Act.put, List.getElem_toArray, List.getElem_cons_succ, List.getElem_cons_zero, List.setIfInBounds_toArray, List.set_cons_zero, List.set_cons_succ]
            refine AnyBut.takeS (i := 11) (v := ?v101) rfl (by kernel_rfl) (Nat.le_of_eq (by kernel_rfl)) (by kernel_rfl) (by kernel_rfl) (fun _ _ _ h => h) (HS6.out) (Or.inl ⟨by kernel_rfl, ?hy101⟩) ?r101
            case hy101 =>
              intro w hSw
              try dsimp only at hSw
              go_simp
              first | (obtain ⟨y0, y1⟩ := hSw; go_simp) | skip
              try with_reducible rfl
            try simp only [Act.put, List.getElem_toArray, List.getElem_cons_succ, List.getElem_cons_zero, List.setIfInBounds_toArray, List.set_cons_zero, List.set_cons_succ]
            refine AnyBut.takeS (i := 12) (v := ?v102) rfl (by kernel_rfl) (Nat.le_of_eq (by kernel_rfl)) (by kernel_rfl) (by kernel_rfl) (fun _ _ _ h => h) (HS6.out) (Or.inl ⟨by kernel_rfl, ?hy102⟩) ?r102
            case hy102 =>
              intro w hSw
              try dsimp only at hSw
              go_simp
              first | (obtain ⟨y0, y1⟩ := hSw; go_simp) | skip
              try with_reducible rfl
            try simp only [Act.put, List.getElem_toArray, List.getElem_cons_succ, List.getElem_cons_zero, List.setIfInBounds_toArray, List.set_cons_zero, List.set_cons_succ]
            refine AnyBut.takeS (i := 13) (v := ?v103) rfl (by kernel_rfl) (Nat.le_of_eq (by kernel_rfl)) (by kernel_rfl) (by kernel_rfl) (fun _ _ _ h => h) (HS6.out) (Or.inl ⟨by kernel_rfl, ?hy103⟩) ?r103
            case hy103 =>
              intro w hSw
              try dsimp only at hSw
              go_simp
              first | (obtain ⟨y0, y1⟩ := hSw; go_simp) | skip
              try with_reducible rfl
            try simp only [Act.put, List.getElem_toArray, List.getElem_cons_succ, List.getElem_cons_zero, List.setIfInBounds_toArray, List.set_cons_zero, List.set_cons_succ]
            refine AnyBut.takeS (i := 14) (v := ?v104) rfl (by kernel_rfl) (Nat.le_of_eq (by kernel_rfl)) (by kernel_rfl) (by kernel_rfl) (fun _ _ _ h => h) (HS6.out) (Or.inl ⟨by kernel_rfl, ?hy104⟩) ?r104
            case hy104 =>
              intro w hSw
              try dsimp only at hSw
              go_simp
              first | (obtain ⟨y0, y1⟩ := hSw; go_simp) | skip
              try with_reducible rfl
            try simp only [Act.put, List.getElem_toArray, List.getElem_cons_succ, List.getElem_cons_zero, List.setIfInBounds_toArray, List.set_cons_zero, List.set_cons_succ]
            refine AnyBut.done (by kernel_rfl) ?_
            obtain ⟨_, _, _, _, c4, _, _, _, _, _, c10, c11, c12, c13, c14, c15, _⟩ := HPS.out w6 (HK6.out)
            go_wp2_with fail
            refine (HHC.out w6 (HK1.out.trans HK6.out)).mono ?_
            rintro e w7 ⟨rfl, k7⟩
            have HK7 := Lib.hid (HK6.out.trans k7)
            clear k7
            go_wp2
            go_ret
            exact ⟨by rw [HC4.out]; rfl, HK1.out.trans HK7.out⟩
  · have q1 : ((E : Int) != 0) = true := bneT (by omega)
    have q1' : (E != 0) = true := by simp [hE]
    have HX : Hid (CK = E) := Lib.hid (by rw [HCK.out, if_pos hE])
    clear hE
    go_wp2
    go_ret
    exact ⟨by rw [HX.out]; rfl, HK1.out.trans HK2.out⟩
end Go.Proofs.YteflepcmblacaaaGreatDoor
