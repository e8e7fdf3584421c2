/- Layer 12: reader.side (written by tools/gen_XI9.py). -/
import Derived.Test.YteflepcmblacaaaGreatDoorI8
namespace Go.Proofs.YteflepcmblacaaaGreatDoor
open Go.RowKit
attribute [local go_sem ↓] Go.wp_at_zero Go.wp_at_succ

theorem RL.blk {W w w' : World} {p : Nat} {l rest : List Int} {S : Nat → Prop} (h : RL W w p l rest) (k : Kept S w w') (hs : ∀ j, S j → W.heap.size ≤ j ∧ ∃ cs fr T, w.heap[j]? = some (.cells cs T fr) ∧ T ≠ 96 ∧ T ≠ 5) : RL W w' p l rest := by
  obtain ⟨t, h, e⟩ := h
  exact ⟨t, h.blk k hs, e⟩
theorem RL.old {W w : World} {p : Nat} {l rest : List Int} (h : RL W w p l rest) : Kept (fun _ => False) W w := h.elim fun _ h => h.1.old
theorem own_raise {w : World} {B B' : Nat} {E : TypeId} {s n : Nat} {v : Value} {xs : List Value} (h : w.ownsRow B E s v n xs) (hb : ∀ k, v.ownBlock = some k → B' ≤ k) : w.ownsRow B' E s v n xs := by
  refine ⟨h.1, ?_⟩
  rcases h.2 with h0 | ⟨g, cap, cur, e, hg, rest⟩
  · exact .inl h0
  · exact .inr ⟨g, cap, cur, e, hb g (by rw [e]; rfl), rest⟩
/-- The boxes of side. -/
structure SideBx (W w wr : World) (p q q3 : Nat) (o : Int) (v : Value) (l rest : List Int) : Prop where
  rd : RL W wr p l rest
  rb : wr.heap[q]? = some (.cells #[.pointer (some ⟨p, 0, none⟩)] 70 (0, 0))
  res : SideBox wr (q + 1) 0 (.slice none 0 0)
  sb : SideBox wr q3 o v
  kp : Kept (fun k => k = p) w wr
  pos : W.heap.size ≤ w.heap.size ∧ w.heap.size ≤ q ∧ q + 1 < q3
/-- The same, with the counts so far. -/
structure SideSt (W w wr : World) (p q q3 : Nat) (o : Int) (v : Value) (xs : List Nat) (l rest : List Int) : Prop where
  b : SideBx W w wr p q q3 o v l rest
  own : wr.ownsRow w.heap.size 23 1 v xs.length (uvals xs)
section
variable {W w wr w' : World} {p q q3 : Nat} {o : Int} {v v' : Value} {xs : List Nat} {l rest rest' : List Int}
theorem SideSt.rd (h : SideSt W w wr p q q3 o v xs l rest) : RL W wr p l rest := h.b.rd
theorem SideSt.on (h : SideSt W w wr p q q3 o v xs l rest) (k : Kept (fun _ => False) wr w') : SideSt W w w' p q q3 o v xs l rest :=
  ⟨⟨h.b.rd.kept k, k.same h.b.rb (fun x => x), h.b.res.same k (fun x => x), h.b.sb.same k (fun x => x), h.b.kp.trans (k.mono (fun _ _ x => x.elim)), h.b.pos⟩, k.owns h.own (fun _ _ x => x)⟩
theorem SideSt.read (h : SideSt W w wr p q q3 o v xs l rest) (k : Kept (fun k => k = p) wr w') (hr : RL W w' p l rest') : SideSt W w w' p q q3 o v xs l rest' := by
  obtain ⟨cs, hb⟩ := h.b.rd.box
  have ne : ∀ {j : Nat} {cs' : Array Value} {T : TypeId}, wr.heap[j]? = some (.cells cs' T (0, 0)) → T ≠ 96 → j ≠ p := fun hj hT e => by
    subst e
    rw [hb] at hj
    injection hj with hj
    injection hj with _ hj
    exact hT hj.symm
  exact ⟨⟨hr, k.same h.b.rb (ne h.b.rb (by decide)), h.b.res.same k (ne h.b.res (by decide)), h.b.sb.same k (ne h.b.sb (by decide)), h.b.kp.trans k, h.b.pos⟩, k.owns h.own (fun j e x => own_box h.own hb (by decide) (by rw [e, x]))⟩
theorem SideSt.mine (h : SideSt W w wr p q q3 o v xs l rest) : Mine W wr 23 v (uvals xs) := by
  refine ⟨?_, h.b.rd.old⟩
  have := wown_base h.own h.b.pos.1
  rwa [uvals_length]
theorem SideSt.cells {n : Nat} {va : Option Addr} {vc : Nat} (h : SideSt W w wr p q q3 o (.slice va n vc) xs l rest) : wr.cell? ⟨q, 0, none⟩ = some (.pointer (some ⟨p, 0, none⟩)) ∧ wr.cell? ⟨q3, 1, none⟩ = some (.slice va n vc) :=
  ⟨cell_rowZ 0 _ h.b.rb rfl, h.b.sb.c.1.2⟩
theorem SideBx.cells {n : Nat} {va : Option Addr} {vc : Nat} (h : SideBx W w wr p q q3 o (.slice va n vc) l rest) : wr.cell? ⟨q, 0, none⟩ = some (.pointer (some ⟨p, 0, none⟩)) ∧ wr.cell? ⟨q3, 1, none⟩ = some (.slice va n vc) :=
  ⟨cell_rowZ 0 _ h.rb rfl, h.sb.c.1.2⟩
theorem SideSt.grow {x : Nat} (h : SideSt W w wr p q q3 o v xs l rest) (hm : Mine W w' 23 v' (uvals xs ++ [.int .u64 (x : Int)])) (k : Kept (fun k => v.ownBlock = some k) wr w') (hb : v'.ownBlock = v.ownBlock ∨ v'.ownBlock = some wr.heap.size) :
    SideBx W w w' p q q3 o v l rest ∧ w'.ownsRow w.heap.size 23 1 v' (xs ++ [x]).length (uvals (xs ++ [x])) := by
  have nb : ∀ {j : Nat} {cs : Array Value} {T : TypeId}, wr.heap[j]? = some (.cells cs T (0, 0)) → T ≠ 23 → ¬ v.ownBlock = some j := fun hj hT e => own_box h.own hj (Ne.symm hT) e
  refine ⟨⟨h.b.rd.blk k (fun j e => ?_), k.same h.b.rb (nb h.b.rb (by decide)), k.same h.b.res (nb h.b.res (by decide)), k.same h.b.sb (nb h.b.sb (by decide)), h.b.kp.step k (fun j hj e => ?_), h.b.pos⟩, ?_⟩
  · obtain ⟨cur, hc⟩ := ownsRow_block h.own e
    have h1 := (ownsRow_lt h.own e).2
    have h2 := h.b.pos.1
    exact ⟨by omega, _, _, _, hc, by decide, by decide⟩
  · have := (ownsRow_lt h.own e).2
    omega
  · have e : uvals xs ++ [.int .u64 (x : Int)] = uvals (xs ++ [x]) := by rw [uvals_append]; rfl
    have ho := hm.own
    rw [e, uvals_length] at ho
    refine own_raise ho (fun j hj => ?_)
    rcases hb with hb | hb
    · rw [hb] at hj
      exact (ownsRow_lt h.own hj).2
    · rw [hb] at hj
      injection hj with hj
      have := h.b.kp.size
      omega
theorem SideBx.put {ys : List Nat} (h : SideBx W w wr p q q3 o v l rest) (ho : wr.ownsRow w.heap.size 23 1 v' ys.length (uvals ys)) : SideSt W w (wr.setCell ⟨q3, 1, none⟩ v') p q q3 o v' ys l rest := by
  have k : Kept (fun k => k = q3) wr (wr.setCell ⟨q3, 1, none⟩ v') := (Kept.refl (fun k => k = q3) wr).setCell (p := ⟨q3, 1, none⟩) (fun _ => rfl) v'
  have hp := h.pos
  refine ⟨⟨h.rd.blk k (fun j e => ?_), k.same h.rb (by omega), k.same h.res (by omega), ?_, h.kp.step k (fun j hj e => by omega), h.pos⟩, k.owns ho (fun j e x => own_box ho h.sb (by decide) (by rw [e, x]))⟩
  · subst e
    exact ⟨by omega, _, _, _, h.sb, by decide, by decide⟩
  · have h1 := heap_setCell_same _ _ 1 _ _ v' h.sb
    simpa [SideBox] using h1
theorem SideBx.off {o' : Int} (h : SideBx W w wr p q q3 o v l rest) : SideBx W w (wr.setCell ⟨q3, 0, none⟩ (.int .i64 o')) p q q3 o' v l rest := by
  have k : Kept (fun k => k = q3) wr (wr.setCell ⟨q3, 0, none⟩ (.int .i64 o')) := (Kept.refl (fun k => k = q3) wr).setCell (p := ⟨q3, 0, none⟩) (fun _ => rfl) _
  have hp := h.pos
  refine ⟨h.rd.blk k (fun j e => ?_), k.same h.rb (by omega), k.same h.res (by omega), ?_, h.kp.step k (fun j hj e => by omega), h.pos⟩
  · subst e
    exact ⟨by omega, _, _, _, h.sb, by decide, by decide⟩
  · have h1 := heap_setCell_same _ _ 0 _ _ (.int .i64 o') h.sb
    simpa [SideBox] using h1
theorem SideSt.fin (h : SideSt W w wr p q q3 o v xs l rest) : SideBox ((wr.setCell ⟨q + 1, 0, none⟩ (.int .i64 o)).setCell ⟨q + 1, 1, none⟩ v) (q + 1) o v ∧
    RL W ((wr.setCell ⟨q + 1, 0, none⟩ (.int .i64 o)).setCell ⟨q + 1, 1, none⟩ v) p l rest ∧ ((wr.setCell ⟨q + 1, 0, none⟩ (.int .i64 o)).setCell ⟨q + 1, 1, none⟩ v).ownsRow w.heap.size 23 1 v xs.length (uvals xs) ∧
    Kept (fun k => k = p) w ((wr.setCell ⟨q + 1, 0, none⟩ (.int .i64 o)).setCell ⟨q + 1, 1, none⟩ v) := by
  have k : Kept (fun k => k = q + 1) wr ((wr.setCell ⟨q + 1, 0, none⟩ (.int .i64 o)).setCell ⟨q + 1, 1, none⟩ v) := ((Kept.refl (fun k => k = q + 1) wr).setCell (p := ⟨q + 1, 0, none⟩) (fun _ => rfl) _).setCell (p := ⟨q + 1, 1, none⟩) (fun _ => rfl) _
  have hp := h.b.pos
  refine ⟨h.b.res.set o v, h.b.rd.blk k (fun j e => ?_), k.owns h.own (fun j e x => own_box h.own h.b.res (by decide) (by rw [e, x])), h.b.kp.step k (fun j hj e => by omega)⟩
  subst e
  exact ⟨by omega, _, _, _, h.b.res, by decide, by decide⟩
theorem numsB_drop {L : List Nat} {i : Nat} (h : i < L.length) : numsB (L.drop i) = numB ((L.getD i 0 : Nat) : Int) ++ numsB (L.drop (i + 1)) := by
  unfold numsB
  rw [List.drop_eq_getElem_cons h, List.flatMap_cons, List.getD_eq_getElem?_getD, List.getElem?_eq_getElem h]
  rfl
theorem take_snoc {L : List Nat} {i : Nat} (h : i < L.length) : L.take (i + 1) = L.take i ++ [L.getD i 0] := by
  rw [List.take_add_one, List.getElem?_eq_getElem h, List.getD_eq_getElem?_getD, List.getElem?_eq_getElem h]
  rfl
end
set_option maxRecDepth 100000 in
set_option maxHeartbeats 8000000 in
theorem rdSide_any {W w : World} {p : Nat} {l rest : List Int} (o : Int) (L : List Nat) (h : RL W w p l (sideB o L ++ rest)) (hl : l.length ≤ 100000000000) (hL : L.length ≤ 160) (ho : -4503599627370496 ≤ o ∧ o ≤ 4503599627370496) (h0 : L.length = 0 → o = 0) (hb : ∀ x ∈ L, x < 18446744073709551616) :
    Calls Tryz.prog 64 #[.agg #[.pointer (some ⟨p, 0, none⟩)]] w fun e w' => ∃ v, e = .returned (.agg #[.int .i64 o, v]) ∧ w'.ownsRow w.heap.size 23 1 v L.length (uvals L) ∧ RL W w' p l rest ∧ Kept (fun k => k = p) w w' := by
  obtain ⟨n, hn⟩ : ∃ n, n = L.length := ⟨_, rfl⟩
  have HLN := Lib.hid (And.intro hn (show n ≤ 160 by omega))
  have HXB := Lib.hid hl
  have HB := Lib.hid hb
  have hsb : sideB o L ++ rest = numB (n : Int) ++ ((if n = 0 then [] else numB (zigI o)) ++ (numsB L ++ rest)) := by unfold sideB; rw [hn]; simp only [List.append_assoc]
  rw [hsb] at h
  have wn : IntKind.u64.wrap (n : Int) = (n : Int) := wrap_u64_of _ (by omega) (by omega)
  obtain ⟨q, hq⟩ : ∃ q, q = w.heap.size := ⟨_, rfl⟩
  obtain ⟨w3, hw3⟩ : ∃ w3, w3 = ((w.alloc (.cells #[.pointer (some ⟨p, 0, none⟩)] 70)).alloc (.cells #[.int .i64 0, .slice none 0 0] 26)).alloc (.cells #[.int .i64 0, .slice none 0 0] 26) := ⟨_, rfl⟩
  have k3 : Kept (fun _ => False) w w3 := by rw [hw3]; exact (((Kept.refl _ _).alloc _).alloc _).alloc _
  have hs3 : SideSt W w w3 p q (q + 1 + 1) 0 (.slice none 0 0) [] l (numB (n : Int) ++ ((if n = 0 then [] else numB (zigI o)) ++ (numsB L ++ rest))) := by
    refine ⟨⟨h.kept k3, ?_, ?_, ?_, k3.mono (fun _ _ x => x.elim), ⟨h.old.size, by omega, by omega⟩⟩, World.ownsRow_nil _ _ _ _⟩
    · rw [hw3, hq]
      exact ((Kept.refl (fun _ => False) _).alloc _).same (((Kept.refl (fun _ => False) _).alloc _).same (heap_alloc_new w _) (fun x => x)) (fun x => x)
    · rw [hw3, hq]; exact box_second w _ _ _
    · rw [hw3, hq]
      have h := heap_alloc_new ((w.alloc (.cells #[.pointer (some ⟨p, 0, none⟩)] 70)).alloc (.cells #[.int .i64 0, .slice none 0 0] 26)) (.cells #[.int .i64 0, .slice none 0 0] 26)
      simpa [SideBox] using h
  have HS3 := Lib.hid hs3
  have HC := Lib.hid (rdCount_any (n : Int) 160 hs3.rd hl (by omega) (by omega) (by omega))
  have HNUM := Lib.hid (fun (w' : World) (x : Int) (r : List Int) (hr : RL W w' p l (numB x ++ r)) => rdNum_any (W := W) (w := w') (p := p) (l := l) (rest := r) x hr hl)
  have HSG := Lib.hid (fun (w' : World) (hr : RL W w' p l (numB (zigI o) ++ (numsB L ++ rest))) => rdSigned_any (W := W) (w := w') (p := p) (l := l) (rest := numsB L ++ rest) o hr hl ho.1 ho.2)
  have HW3 := Lib.hid (And.intro hw3 hq)
  have HO0 := Lib.hid h0
  rw [← hn] at HO0 ⊢
  have c0 := hs3.cells.1
  have HK9 := Lib.hid (fun (wr : World) (k : Kept (fun k => k = p) w wr) => k)
  clear h hl hL ho h0 hb hn hsb hq hw3 k3 hs3
  go_enter Tryz.func64, Tryz.ntmps64
  go_upto_region 2 with fail
  rw [← HW3.out.1, ← HW3.out.2]
  go_wp2_with fail
  refine HC.out.mono ?_
  rintro e w4 ⟨rfl, h4, k4⟩
  have HS4 := Lib.hid (HS3.out.read k4 h4)
  clear h4 k4 c0
  by_cases h0 : n = 0
  · have q0 : decide (0 < n) = false := decide_eq_false (by omega)
    have q0' : ¬ (0 : Int) < (n : Int) := by omega
    have ho0 := HO0.out h0
    subst ho0
    have HL0 : Hid (SideSt W w w4 p q (q + 1 + 1) 0 (.slice none 0 0) [] l (numsB L ++ rest)) := Lib.hid (by have := HS4.out; rw [if_pos h0, List.nil_append] at this; exact this)
    clear h0
    go_wp2
    go_loopg [15] n (fun g s15 wr => ∃ (i : Nat) (v : Value), i ≤ n ∧ g = n - i ∧ s15 = .int .i64 (i : Int) ∧ SideSt W w wr p q (q + 1 + 1) 0 v (L.take i) l (numsB (L.drop i) ++ rest))
    case atStart => exact ⟨0, _, Nat.zero_le _, rfl, rfl, by rw [List.take_zero, List.drop_zero]; exact HL0.out⟩
    case round =>
      obtain ⟨i, v, hin, rfl, rfl, hst⟩ := hrel
      obtain ⟨va, vc, rfl⟩ := ownsRow_slice hst.own
      by_cases hd : i < n
      · have hdi : (i : Int) < (n : Int) := by omega
        have hdi0 : (0 : Int) ≤ (i : Int) := by omega
        have HD := Lib.hid hd
        have hil : i < L.length := by rw [← HLN.out.1]; exact hd
        have wi : IntKind.i64.wrap ((i : Int) + 1) = ((i + 1 : Nat) : Int) := by have := HLN.out; rw [IntWalk.i64_in _ ⟨by omega, by omega⟩]; omega
        have hti : (L.take i).length = i := by rw [List.length_take]; omega
        rw [hti] at hst
        have hx9 : L.getD i 0 < 18446744073709551616 := getD_u64 HB.out i
        have htk := take_snoc hil
        rw [numsB_drop hil, List.append_assoc] at hst
        obtain ⟨x, hx⟩ : ∃ x, x = L.getD i 0 := ⟨_, rfl⟩
        rw [← hx] at hst hx9 htk
        have HTK := Lib.hid (And.intro htk hti)
        have HXB2 := Lib.hid (show (0 : Int) ≤ (x : Int) ∧ (x : Int) ≤ 18446744073709551615 by omega)
        have HD0 := Lib.hid (hst.on ((Kept.refl _ wr).drew))
        clear hst hd hin hil hx hx9 htk hti
        go_upto_region 7 with fail
        refine AnyBut.start (S := fun w' => w'.cell? ⟨q, 0, none⟩ = some (.pointer (some ⟨p, 0, none⟩)) ∧ w'.cell? ⟨q + 1 + 1, 1, none⟩ = some (.slice va i vc)) (k := 8) (by kernel_rfl) ?_
        refine AnyBut.take (i := 0) (v := ?v1) rfl (by kernel_rfl) (by kernel_rfl) (by kernel_rfl) (by kernel_rfl) (fun _ _ _ h => h) (HD0.out.cells) (Or.inl ⟨by kernel_rfl, ?hy1⟩) ?r1
        case hy1 =>
          intro w hSw
          try dsimp only at hSw
          go_simp
          try with_reducible rfl
        try simp only [Act.put, List.getElem_toArray, List.getElem_cons_zero, List.setIfInBounds_toArray, List.set_cons_zero, List.set_cons_succ]
        refine AnyBut.take (i := 1) (v := ?v2) rfl (by kernel_rfl) (by kernel_rfl) (by kernel_rfl) (by kernel_rfl) (fun _ _ _ h => h) (HD0.out.cells) (Or.inl ⟨by kernel_rfl, ?hy2⟩) ?r2
        case hy2 =>
          intro w hSw
          try dsimp only at hSw
          go_simp
          try with_reducible rfl
        try simp only [Act.put, List.getElem_toArray, List.getElem_cons_succ, List.getElem_cons_zero, List.setIfInBounds_toArray, List.set_cons_zero, List.set_cons_succ]
        refine AnyBut.take (i := 2) (v := ?v3) rfl (by kernel_rfl) (by kernel_rfl) (by kernel_rfl) (by kernel_rfl) (fun _ _ _ h => h) (HD0.out.cells) (Or.inl ⟨by kernel_rfl, ?hy3⟩) ?r3
        case hy3 =>
          intro w hSw
          try dsimp only at hSw
          go_simp
          try with_reducible rfl
        try simp only [Act.put, List.getElem_toArray, List.getElem_cons_succ, List.getElem_cons_zero, List.setIfInBounds_toArray, List.set_cons_zero, List.set_cons_succ]
        refine AnyBut.take (i := 3) (v := ?v4) rfl (by kernel_rfl) (by kernel_rfl) (by kernel_rfl) (by kernel_rfl) (fun _ _ _ h => h) (HD0.out.cells) (Or.inl ⟨by kernel_rfl, ?hy4⟩) ?r4
        case hy4 =>
          intro w hSw
          try dsimp only at hSw
          go_simp
          try with_reducible rfl
        try simp only [Act.put, List.getElem_toArray, List.getElem_cons_succ, List.getElem_cons_zero, List.setIfInBounds_toArray, List.set_cons_zero, List.set_cons_succ]
        refine AnyBut.one (i := 4) (by kernel_rfl) rfl (fun K hK => ?_)
        go_simp
        go_wp2_with fail
        refine (HNUM.out _ _ _ HD0.out.rd HXB2.out.1 HXB2.out.2).mono ?_
        rintro e w4 ⟨rfl, h4, k4⟩
        have HD4 := Lib.hid (HD0.out.read k4 h4)
        clear h4 k4
        go_wp2
        refine hK.out _ _ (HD4.out.cells) ?_
        clear hK K
        try simp only [Act.put, List.getElem_toArray, List.getElem_cons_succ, List.getElem_cons_zero, List.setIfInBounds_toArray, List.set_cons_zero, List.set_cons_succ]
        refine AnyBut.one (i := 5) (by kernel_rfl) rfl (fun K hK => ?_)
        go_simp
        have HD5 := Lib.hid (HD4.out.on ((Kept.refl (fun _ => False) w4).alloc (.cells #[(.int .u64 (x : Int))] 23)))
        have HSRC := Lib.hid (src_oneU w4 (.int .u64 (x : Int)) rfl)
        have HMI5 := Lib.hid HD5.out.mine
        refine hK.out _ _ (HD5.out.cells) ?_
        clear hK K
        try simp only [Act.put, List.getElem_toArray, List.getElem_cons_succ, List.getElem_cons_zero, List.setIfInBounds_toArray, List.set_cons_zero, List.set_cons_succ]
        refine AnyBut.one (i := 6) (by kernel_rfl) rfl (fun K hK => ?_)
        refine step_mineU (by rfl) (.tmp 18) (.tmp 22) (by rfl) W _ _ (by rfl) HMI5.out _ [(.int .u64 (x : Int))] (by rfl) HSRC.out (by have := HLN.out; have := HTK.out.2; have := HD.out; simp only [List.length_singleton, uvals_length]; omega) ?_
        intro v8 w8 hm8 hk8 hb8
        obtain ⟨a8, c8, rfl⟩ := hm8.slice
        rw [show (uvals (L.take i) ++ ([.int .u64 (x : Int)] : List Value)).length = i + 1 by rw [List.length_append, uvals_length, HTK.out.2]; rfl] at hm8 hb8 ⊢
        have hd8 := HD5.out.grow hm8 hk8 hb8
        have HD8 := Lib.hid hd8
        obtain ⟨_, g1, g2⟩ := hd8.1.sb.c
        clear hm8 hk8 hb8 hd8
        refine hK.out _ _ (HD8.out.1.cells) ?_
        clear hK K
        try simp only [Act.put, List.getElem_toArray, List.getElem_cons_succ, List.getElem_cons_zero, List.setIfInBounds_toArray, List.set_cons_zero, List.set_cons_succ]
        refine AnyBut.take (i := 7) (v := ?v5) rfl (by kernel_rfl) (by kernel_rfl) (by kernel_rfl) (by kernel_rfl) (fun _ _ _ h => h) (HD8.out.1.cells) (Or.inl ⟨by kernel_rfl, ?hy5⟩) ?r5
        case hy5 =>
          intro w hSw
          try dsimp only at hSw
          go_simp
          try with_reducible rfl
        try simp only [Act.put, List.getElem_toArray, List.getElem_cons_succ, List.getElem_cons_zero, List.setIfInBounds_toArray, List.set_cons_zero, List.set_cons_succ]
        refine AnyBut.last (by kernel_rfl) rfl (by kernel_rfl) (fun K hK => ?_)
        go_simp
        refine hK.out _ _ ?_
        clear hK K
        try simp only [Act.put, List.getElem_toArray, List.getElem_cons_succ, List.getElem_cons_zero, List.setIfInBounds_toArray, List.set_cons_zero, List.set_cons_succ]
        go_wp2
        go_roundg (n - (i + 1))
        case measure => have := HD.out; omega
        case rel => exact ⟨i + 1, _, HD.out, rfl, rfl, by rw [HTK.out.1]; exact HD8.out.1.put HD8.out.2⟩
      · have hdi : ¬ (i : Int) < (n : Int) := by omega
        have hdi' : decide (i < n) = false := decide_eq_false hd
        obtain rfl : i = n := by omega
        have hE : L.take i = L ∧ L.drop i = [] := ⟨by rw [HLN.out.1, List.take_length], by rw [HLN.out.1, List.drop_length]⟩
        rw [hE.1, hE.2, ← HLN.out.1] at hst
        have hst' : SideSt W w wr p q (q + 1 + 1) 0 (.slice va i vc) L l rest := by
          have := hst
          unfold numsB at this
          simpa using this
        obtain ⟨⟨c0, c1⟩, _⟩ := hst'.b.sb.c
        obtain ⟨⟨r0, r1⟩, r2, r3⟩ := hst'.b.res.c
        have HF := Lib.hid hst'.fin
        clear hst hst' hd hin hE
        go_wp2
        refine side_end (o := 0) (v := .slice va i vc) Tryz.results64 rfl rfl HF.out.1 ?_
        exact ⟨_, rfl, by have := HF.out.2.2.1; rwa [← HLN.out.1] at this, HF.out.2.1, HF.out.2.2.2⟩
  · have q0 : decide (0 < n) = true := decide_eq_true (by omega)
    have q0' : (0 : Int) < (n : Int) := by omega
    have hs4 := HS4.out
    rw [if_neg h0] at hs4
    have HS4b := Lib.hid hs4
    have HCS := Lib.hid (HSG.out w4 hs4.rd)
    have c0 := hs4.cells.1
    have rb := cell_rowZ 0 _ hs4.b.rb rfl
    clear h0 hs4
    go_wp2_with fail
    refine HCS.out.mono ?_
    rintro e w5 ⟨rfl, h5, k5⟩
    have hs5 := HS4b.out.read k5 h5
    have HL0 : Hid (SideSt W w (w5.setCell ⟨q + 1 + 1, 0, none⟩ (.int .i64 o)) p q (q + 1 + 1) o (.slice none 0 0) [] l (numsB L ++ rest)) := Lib.hid (⟨hs5.b.off, World.ownsRow_nil _ _ _ _⟩)
    obtain ⟨⟨d0, d1⟩, d2, d3⟩ := hs5.b.sb.c
    clear hs5 h5 k5 c0 rb
    go_wp2
    go_loopg [15] n (fun g s15 wr => ∃ (i : Nat) (v : Value), i ≤ n ∧ g = n - i ∧ s15 = .int .i64 (i : Int) ∧ SideSt W w wr p q (q + 1 + 1) o v (L.take i) l (numsB (L.drop i) ++ rest))
    case atStart => exact ⟨0, _, Nat.zero_le _, rfl, rfl, by rw [List.take_zero, List.drop_zero]; exact HL0.out⟩
    case round =>
      obtain ⟨i, v, hin, rfl, rfl, hst⟩ := hrel
      obtain ⟨va, vc, rfl⟩ := ownsRow_slice hst.own
      by_cases hd : i < n
      · have hdi : (i : Int) < (n : Int) := by omega
        have hdi0 : (0 : Int) ≤ (i : Int) := by omega
        have HD := Lib.hid hd
        have hil : i < L.length := by rw [← HLN.out.1]; exact hd
        have wi : IntKind.i64.wrap ((i : Int) + 1) = ((i + 1 : Nat) : Int) := by have := HLN.out; rw [IntWalk.i64_in _ ⟨by omega, by omega⟩]; omega
        have hti : (L.take i).length = i := by rw [List.length_take]; omega
        rw [hti] at hst
        have hx9 : L.getD i 0 < 18446744073709551616 := getD_u64 HB.out i
        have htk := take_snoc hil
        rw [numsB_drop hil, List.append_assoc] at hst
        obtain ⟨x, hx⟩ : ∃ x, x = L.getD i 0 := ⟨_, rfl⟩
        rw [← hx] at hst hx9 htk
        have HTK := Lib.hid (And.intro htk hti)
        have HXB2 := Lib.hid (show (0 : Int) ≤ (x : Int) ∧ (x : Int) ≤ 18446744073709551615 by omega)
        have HD0 := Lib.hid (hst.on ((Kept.refl _ wr).drew))
        clear hst hd hin hil hx hx9 htk hti
        go_upto_region 7 with fail
        refine AnyBut.start (S := fun w' => w'.cell? ⟨q, 0, none⟩ = some (.pointer (some ⟨p, 0, none⟩)) ∧ w'.cell? ⟨q + 1 + 1, 1, none⟩ = some (.slice va i vc)) (k := 8) (by kernel_rfl) ?_
        refine AnyBut.take (i := 0) (v := ?v6) rfl (by kernel_rfl) (by kernel_rfl) (by kernel_rfl) (by kernel_rfl) (fun _ _ _ h => h) (HD0.out.cells) (Or.inl ⟨by kernel_rfl, ?hy6⟩) ?r6
        case hy6 =>
          intro w hSw
          try dsimp only at hSw
          go_simp
          try with_reducible rfl
        try simp only [Act.put, List.getElem_toArray, List.getElem_cons_zero, List.setIfInBounds_toArray, List.set_cons_zero, List.set_cons_succ]
        refine AnyBut.take (i := 1) (v := ?v7) rfl (by kernel_rfl) (by kernel_rfl) (by kernel_rfl) (by kernel_rfl) (fun _ _ _ h => h) (HD0.out.cells) (Or.inl ⟨by kernel_rfl, ?hy7⟩) ?r7
        case hy7 =>
          intro w hSw
          try dsimp only at hSw
          go_simp
          try with_reducible rfl
        try simp only [Act.put, List.getElem_toArray, List.getElem_cons_succ, List.getElem_cons_zero, List.setIfInBounds_toArray, List.set_cons_zero, List.set_cons_succ]
        refine AnyBut.take (i := 2) (v := ?v8) rfl (by kernel_rfl) (by kernel_rfl) (by kernel_rfl) (by kernel_rfl) (fun _ _ _ h => h) (HD0.out.cells) (Or.inl ⟨by kernel_rfl, ?hy8⟩) ?r8
        case hy8 =>
          intro w hSw
          try dsimp only at hSw
          go_simp
          try with_reducible rfl
        try simp only [Act.put, List.getElem_toArray, List.getElem_cons_succ, List.getElem_cons_zero, List.setIfInBounds_toArray, List.set_cons_zero, List.set_cons_succ]
        refine AnyBut.take (i := 3) (v := ?v9) rfl (by kernel_rfl) (by kernel_rfl) (by kernel_rfl) (by kernel_rfl) (fun _ _ _ h => h) (HD0.out.cells) (Or.inl ⟨by kernel_rfl, ?hy9⟩) ?r9
        case hy9 =>
          intro w hSw
          try dsimp only at hSw
          go_simp
          try with_reducible rfl
        try simp only [Act.put, List.getElem_toArray, List.getElem_cons_succ, List.getElem_cons_zero, List.setIfInBounds_toArray, List.set_cons_zero, List.set_cons_succ]
        refine AnyBut.one (i := 4) (by kernel_rfl) rfl (fun K hK => ?_)
        go_simp
        go_wp2_with fail
        refine (HNUM.out _ _ _ HD0.out.rd HXB2.out.1 HXB2.out.2).mono ?_
        rintro e w4 ⟨rfl, h4, k4⟩
        have HD4 := Lib.hid (HD0.out.read k4 h4)
        clear h4 k4
        go_wp2
        refine hK.out _ _ (HD4.out.cells) ?_
        clear hK K
        try simp only [Act.put, List.getElem_toArray, List.getElem_cons_succ, List.getElem_cons_zero, List.setIfInBounds_toArray, List.set_cons_zero, List.set_cons_succ]
        refine AnyBut.one (i := 5) (by kernel_rfl) rfl (fun K hK => ?_)
        go_simp
        have HD5 := Lib.hid (HD4.out.on ((Kept.refl (fun _ => False) w4).alloc (.cells #[(.int .u64 (x : Int))] 23)))
        have HSRC := Lib.hid (src_oneU w4 (.int .u64 (x : Int)) rfl)
        have HMI5 := Lib.hid HD5.out.mine
        refine hK.out _ _ (HD5.out.cells) ?_
        clear hK K
        try simp only [Act.put, List.getElem_toArray, List.getElem_cons_succ, List.getElem_cons_zero, List.setIfInBounds_toArray, List.set_cons_zero, List.set_cons_succ]
        refine AnyBut.one (i := 6) (by kernel_rfl) rfl (fun K hK => ?_)
        refine step_mineU (by rfl) (.tmp 18) (.tmp 22) (by rfl) W _ _ (by rfl) HMI5.out _ [(.int .u64 (x : Int))] (by rfl) HSRC.out (by have := HLN.out; have := HTK.out.2; have := HD.out; simp only [List.length_singleton, uvals_length]; omega) ?_
        intro v8 w8 hm8 hk8 hb8
        obtain ⟨a8, c8, rfl⟩ := hm8.slice
        rw [show (uvals (L.take i) ++ ([.int .u64 (x : Int)] : List Value)).length = i + 1 by rw [List.length_append, uvals_length, HTK.out.2]; rfl] at hm8 hb8 ⊢
        have hd8 := HD5.out.grow hm8 hk8 hb8
        have HD8 := Lib.hid hd8
        obtain ⟨_, g1, g2⟩ := hd8.1.sb.c
        clear hm8 hk8 hb8 hd8
        refine hK.out _ _ (HD8.out.1.cells) ?_
        clear hK K
        try simp only [Act.put, List.getElem_toArray, List.getElem_cons_succ, List.getElem_cons_zero, List.setIfInBounds_toArray, List.set_cons_zero, List.set_cons_succ]
        refine AnyBut.take (i := 7) (v := ?v10) rfl (by kernel_rfl) (by kernel_rfl) (by kernel_rfl) (by kernel_rfl) (fun _ _ _ h => h) (HD8.out.1.cells) (Or.inl ⟨by kernel_rfl, ?hy10⟩) ?r10
        case hy10 =>
          intro w hSw
          try dsimp only at hSw
          go_simp
          try with_reducible rfl
        try simp only [Act.put, List.getElem_toArray, List.getElem_cons_succ, List.getElem_cons_zero, List.setIfInBounds_toArray, List.set_cons_zero, List.set_cons_succ]
        refine AnyBut.last (by kernel_rfl) rfl (by kernel_rfl) (fun K hK => ?_)
        go_simp
        refine hK.out _ _ ?_
        clear hK K
        try simp only [Act.put, List.getElem_toArray, List.getElem_cons_succ, List.getElem_cons_zero, List.setIfInBounds_toArray, List.set_cons_zero, List.set_cons_succ]
        go_wp2
        go_roundg (n - (i + 1))
        case measure => have := HD.out; omega
        case rel => exact ⟨i + 1, _, HD.out, rfl, rfl, by rw [HTK.out.1]; exact HD8.out.1.put HD8.out.2⟩
      · have hdi : ¬ (i : Int) < (n : Int) := by omega
        have hdi' : decide (i < n) = false := decide_eq_false hd
        obtain rfl : i = n := by omega
        have hE : L.take i = L ∧ L.drop i = [] := ⟨by rw [HLN.out.1, List.take_length], by rw [HLN.out.1, List.drop_length]⟩
        rw [hE.1, hE.2, ← HLN.out.1] at hst
        have hst' : SideSt W w wr p q (q + 1 + 1) o (.slice va i vc) L l rest := by
          have := hst
          unfold numsB at this
          simpa using this
        obtain ⟨⟨c0, c1⟩, _⟩ := hst'.b.sb.c
        obtain ⟨⟨r0, r1⟩, r2, r3⟩ := hst'.b.res.c
        have HF := Lib.hid hst'.fin
        clear hst hst' hd hin hE
        go_wp2
        refine side_end (o := o) (v := .slice va i vc) Tryz.results64 rfl rfl HF.out.1 ?_
        exact ⟨_, rfl, by have := HF.out.2.2.1; rwa [← HLN.out.1] at this, HF.out.2.1, HF.out.2.2.2⟩
end Go.Proofs.YteflepcmblacaaaGreatDoor
