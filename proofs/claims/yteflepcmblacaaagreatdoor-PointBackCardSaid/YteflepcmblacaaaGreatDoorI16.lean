/- Layer 12: Read on the bytes of a right point (written by tools/gen_XI16.py). -/
import Derived.Test.YteflepcmblacaaaGreatDoorI11
import Derived.Test.YteflepcmblacaaaGreatDoorI6
namespace Go.Proofs.YteflepcmblacaaaGreatDoor
open Go.RowKit
attribute [local go_sem ↓] Go.wp_at_zero Go.wp_at_succ

theorem checkE_zero {name : ByteArray} {M : List Pr} (hn : nameB name = true) (h4 : M.length ≤ 4) (hM : ∀ p ∈ M, nameB p.k = true ∧ valueB p.v = true) (hD : Dis M) : checkE name M = 0 := by
  unfold checkE
  rw [if_pos hn, if_neg (by omega)]
  have : ∀ k, k ≤ M.length → faults M k = 0 := by
    intro k
    induction k with
    | zero => intro _; rfl
    | succ k ih =>
      intro hk
      rw [faults_succ (ih (by omega))]
      unfold faultAt
      have hi : k < M.length := by omega
      have hg : M.getD k ⟨ByteArray.empty, ByteArray.empty⟩ = M[k] := getD_pr (List.getElem?_eq_getElem hi) _
      have hd := dis_has hD hi
      have hm := hM _ (List.getElem_mem hi)
      have hg2 : M.getD k pr0 = M[k] := getD_pr (List.getElem?_eq_getElem hi) _
      rw [hg2] at hd
      rw [hg, if_pos hm, if_neg (by rw [hd]; simp)]
  exact this _ (Nat.le_refl _)
theorem right_sort {x : Pnt} (h : x.right) : checkE x.name (sortP x.L) = 0 := by
  obtain ⟨h1, h2, h3, h4⟩ := checkE_facts h.lab
  exact checkE_zero h1 (by rw [(sortP_perm x.L).length_eq]; exact h2) (fun p hp => h3 p ((sortP_perm x.L).mem_iff.1 hp)) (dis_sort h4)
theorem chk_sort {x : Pnt} (h : x.right) (hc : chk x = 0) : chk { x with L := sortP x.L } = 0 := by
  have e : chk { x with L := sortP x.L } = chk x := by
    unfold chk
    rw [show checkE ({ x with L := sortP x.L } : Pnt).name ({ x with L := sortP x.L } : Pnt).L = 0 from right_sort h, h.lab]
    rfl
  rw [e, hc]
theorem step_store_row {P : Program} {ops : Array Oper} {o : Oper} {a : Act} {w : World} {K : Act → World → Prop} {Q : Exit → Act → World → Prop} {E : Prop} (hgd : o.guard = none) (ty : TypeId) (x y : Operand) (ho : o.op = .store ty x y)
    (g : Nat) (cells : Array Value) (hx : a.eval x = .pointer (some ⟨g, 0, none⟩)) (hy : a.eval y = .agg cells) (t : TypeId) (old : Array Value) (hg : w.heap[g]? = some (.cells old t (0, 0))) (hi : (P.info? ty).map (·.size) = some cells.size)
    (hold : old.size = cells.size) (h1 : cells.all (·.oneCell') = true) (h : K (a.put o.dst undef) (w.setRow g cells)) : if Region.wanted o (yielded ops a.tmps) = true then Oper.wp P o a w K Q else E := by
  rw [if_pos (by simp [Region.wanted, hgd])]
  exact wp_store_row ty x y ho g cells hx hy t old hg hi hold h1 h
/-- The boxes of Read: the reader's, the point's. -/
structure PBx4 (W wr : World) (p q4 q6 : Nat) (cs : Array Value) (l rest : List Int) : Prop where
  rd : RL W wr p l rest
  rb : wr.heap[q4]? = some (.cells #[.pointer (some ⟨p, 0, none⟩)] 70 (0, 0))
  pb : wr.heap[q6]? = some (.cells cs 30 (0, 0))
  pos : q4 ≠ q6 ∧ W.heap.size ≤ q6 ∧ W.heap.size ≤ q4
section
variable {W wr w' : World} {p q4 q6 : Nat} {cs zs : Array Value} {l rest rest' : List Int}
theorem PBx4.on (h : PBx4 W wr p q4 q6 cs l rest) (k : Kept (fun _ => False) wr w') : PBx4 W w' p q4 q6 cs l rest :=
  ⟨h.rd.kept k, k.same h.rb (fun x => x), k.same h.pb (fun x => x), h.pos⟩
theorem PBx4.read (h : PBx4 W wr p q4 q6 cs l rest) (k : Kept (fun k => k = p) wr w') (hr : RL W w' p l rest') : PBx4 W w' p q4 q6 cs l rest' :=
  ⟨hr, k.same h.rb (h.rd.ne h.rb (by decide)), k.same h.pb (h.rd.ne h.pb (by decide)), h.pos⟩
theorem PBx4.set (h : PBx4 W wr p q4 q6 cs l rest) (j : Nat) (u : Value) : PBx4 W (wr.setCell ⟨q6, j, none⟩ u) p q4 q6 (cs.setIfInBounds j u) l rest := by
  have k : Kept (fun k => k = q6) wr (wr.setCell ⟨q6, j, none⟩ u) := (Kept.refl (fun k => k = q6) wr).setCell (p := ⟨q6, j, none⟩) (fun _ => rfl) u
  have hp := h.pos
  refine ⟨h.rd.blk k (fun i e => ?_), k.same h.rb (by omega), heap_setCell_same _ _ j _ _ u h.pb, h.pos⟩
  subst e
  exact ⟨by omega, _, _, _, h.pb, by decide, by decide⟩
theorem PBx4.ofRow (rd : RL W wr p l rest) (rb : wr.heap[q4]? = some (.cells #[.pointer (some ⟨p, 0, none⟩)] 70 (0, 0))) (pb : wr.heap[q6]? = some (.cells zs 30 (0, 0))) (hq : q4 ≠ q6 ∧ W.heap.size ≤ q6) (h4 : W.heap.size ≤ q4) (cs : Array Value) :
    PBx4 W (wr.setRow q6 cs) p q4 q6 cs l rest := by
  have k := setRow_keptW wr q6 cs
  refine ⟨rd.blk k (fun i e => ?_), k.same rb (by omega), setRow_heap _ _ _ _ _ _ pb, ⟨hq.1, hq.2, h4⟩⟩
  subst e
  exact ⟨by omega, _, _, _, pb, by decide, by decide⟩
end
end Go.Proofs.YteflepcmblacaaaGreatDoor
