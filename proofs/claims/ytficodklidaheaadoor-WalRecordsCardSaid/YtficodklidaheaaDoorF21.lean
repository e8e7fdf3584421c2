/- package limnographref04: Scan. -/
import Derived.Test.YtficodklidaheaaDoorF20
import Derived.Test.YtficodklidaheaaDoorF16
import Derived.Deep.RegionWith
namespace Go.Proofs.YtficodklidaheaaDoor
open Go.RowKit
attribute [local go_sem ↓] Go.wp_at_zero Go.wp_at_succ

/-- Rows of bytes by their slices. -/
def RowsV (w : World) (vs : List Value) (Ls : List (List Nat)) : Prop :=
  vs.length = Ls.length ∧ ∀ i, i < Ls.length → ∃ ai ci, vs[i]? = some (.slice ai (Ls.getD i []).length ci) ∧ Row8 w (.slice ai (Ls.getD i []).length ci) (Ls.getD i [])
theorem RowsV.snoc {w : World} {vs : List Value} {Ls : List (List Nat)} (h : RowsV w vs Ls) {a : Option Addr} {c : Nat} {l : List Nat} (hv : Row8 w (.slice a l.length c) l) : RowsV w (vs ++ [.slice a l.length c]) (Ls ++ [l]) := by
  refine ⟨by simp [h.1], fun i hi => ?_⟩
  rw [List.length_append] at hi
  by_cases hlt : i < Ls.length
  · obtain ⟨ai, ci, h1, h2⟩ := h.2 i hlt
    have e : (Ls ++ [l]).getD i [] = Ls.getD i [] := by simp only [List.getD_eq_getElem?_getD]; rw [List.getElem?_append_left hlt]
    rw [e]
    exact ⟨ai, ci, by rw [List.getElem?_append_left (by rw [h.1]; exact hlt)]; exact h1, h2⟩
  · have hi' : i = Ls.length := by simp at hi; omega
    subst hi'
    have e : (Ls ++ [l]).getD Ls.length [] = l := by simp only [List.getD_eq_getElem?_getD]; rw [List.getElem?_append_right (Nat.le_refl _)]; simp
    rw [e]
    exact ⟨a, c, by rw [← h.1]; simp, hv⟩
theorem RowsV.at_ {w w' : World} {B : Nat} {v : Value} {vs : List Value} {Ls : List (List Nat)} (h : RowsV w vs Ls) (hk : Kept (fun _ => False) w w') (ho : w'.ownsRow B 22 1 v vs.length vs) : RowsAt w' v Ls := by
  have hl := h.1
  obtain ⟨ao, c, rfl⟩ := ownsRow_slice ho
  rw [hl]
  refine ⟨ao, c, rfl, fun i hi => ?_⟩
  obtain ⟨ai, ci, h1, h2⟩ := h.2 i hi
  obtain ⟨g, cap, hv, _, _⟩ := own_at ho (by omega)
  injection hv with e1 e2 e3
  subst e1
  exact ⟨_, ai, ci, rfl, ho.cells (g := g) rfl i _ h1, h2.kept hk⟩

/-- What the document's Scan has behind U bytes. -/
structure RefAt (w : World) (l : List Nat) (U : Nat) (vL : Value) (vs : List Value) (Ls : List (List Nat)) (w' : World) : Prop where
  le : U ≤ l.length
  box : w'.heap[w.heap.size + 1]? = some (.cells #[vL, .int .i64 U, .int .i64 0] 34 (0, 0))
  res : w'.heap[w.heap.size]? = some (.cells #[.slice none 0 0, .int .i64 0, .int .i64 0] 34 (0, 0))
  own : w'.ownsRow w.heap.size 22 1 vL vs.length vs
  rows : RowsV w vs Ls
  kept : Kept (fun _ => False) w w'
  len : vs.length ≤ U
  rest : ∀ L u e, ScanR (l.drop U) L u e → ScanR l (Ls ++ L) (U + u) e

/-- What it answers. -/
def RefScanned (w : World) (l : List Nat) (e : Ending) (w' : World) : Prop :=
  ∃ v Ls u n, ScanR l Ls u n ∧ e = .returned (.agg #[v, .int .i64 ((u : Nat) : Int), .int .i64 ((n : Nat) : Int)]) ∧ RowsAt w' v Ls ∧ Kept (fun _ => False) w w' ∧ ∃ vs, w'.ownsRow w.heap.size 22 1 v vs.length vs ∧ RowsV w vs Ls
theorem RefAt.done {w w' w2 : World} {l : List Nat} {U : Nat} {vL : Value} {vs : List Value} {Ls : List (List Nat)} (h : RefAt w l U vL vs Ls w') (hd : U = l.length) (hk : Kept (fun k => k = w.heap.size) w' w2) :
    RefScanned w l (.returned (.agg #[vL, .int .i64 (U : Int), .int .i64 0])) w2 := by
  have hr := h.rest [] 0 0 (by rw [hd, List.drop_length]; exact .done)
  have hk2 : Kept (fun _ => False) w w2 := h.kept.step hk (fun q hq e => by omega)
  have ho := hk.owns h.own (fun q e x => by
    obtain ⟨c1, e1⟩ := ownsRow_block h.own e
    rw [x, h.res] at e1
    simp at e1)
  refine ⟨vL, _, _, _, hr, by simp, ?_, hk2, vs, ho, by rw [List.append_nil]; exact h.rows⟩
  rw [List.append_nil]
  exact h.rows.at_ hk2 ho
theorem RefAt.bad {w w' w2 : World} {l R : List Nat} {U : Nat} {vL : Value} {vs : List Value} {Ls : List (List Nat)} (h : RefAt w l U vL vs Ls w') (hd : U < l.length) (hR : R = l.drop U) (he : firstE R ≠ 0) (hk : Kept (fun k => k = w.heap.size ∨ k = w.heap.size + 1) w' w2) :
    RefScanned w l (.returned (.agg #[vL, .int .i64 (U : Int), .int .i64 ((firstE R : Nat) : Int)])) w2 := by
  have hr := h.rest [] 0 (firstE R) (by
    rw [← hR]
    refine .bad R ?_ he
    intro e
    rw [hR] at e
    have := congrArg List.length e
    rw [List.length_drop] at this
    simp at this
    omega)
  have hk2 : Kept (fun _ => False) w w2 := h.kept.step hk (fun q hq e => by omega)
  have ho := hk.owns h.own (fun q e x => by
    obtain ⟨c1, e1⟩ := ownsRow_block h.own e
    rcases x with x | x
    · rw [x, h.res] at e1; simp at e1
    · rw [x, h.box] at e1; simp at e1)
  refine ⟨vL, _, _, _, hr, by simp, ?_, hk2, vs, ho, by rw [List.append_nil]; exact h.rows⟩
  rw [List.append_nil]
  exact h.rows.at_ hk2 ho
theorem RefAt.step {w w' w1 w3 w5 : World} {l R : List Nat} {U U2 : Nat} {vL vL2 : Value} {vs : List Value} {Ls : List (List Nat)} {a : Option Addr} {c Z : Nat} (h : RefAt w l U vL vs Ls w') (hk1 : Kept (fun _ => False) w' w1) (hv : Row8 w (.slice a Z c) (payL R)) (hZ : Z = (payL R).length) (he : firstE R = 0) (hR : R = l.drop U) (hU2 : U2 = U + (9 + sizeL R)) (hU3 : U2 ≤ l.length)
    (hown : w3.ownsRow w.heap.size 22 1 vL2 (vs.length + 1) (vs ++ [.slice a Z c])) (hg : w1.grownBy w3 vL.ownBlock) (h5 : w5 = (w3.setCell ⟨w.heap.size + 1, 0, none⟩ vL2).setCell ⟨w.heap.size + 1, 1, none⟩ (.int .i64 (U2 : Int))) : RefAt w l U2 vL2 (vs ++ [.slice a Z c]) (Ls ++ [payL R]) w5 := by
  subst hZ
  have ho1 := hk1.owns h.own (fun _ _ x => x)
  have hb1 := hk1.same h.box (fun x => x)
  have hr1 := hk1.same h.res (fun x => x)
  have ne1 : ¬ some (w.heap.size + 1) = vL.ownBlock := fun e => by
    obtain ⟨c1, e1⟩ := ownsRow_block ho1 e.symm
    rw [hb1] at e1; simp at e1
  have ne0 : ¬ some w.heap.size = vL.ownBlock := fun e => by
    obtain ⟨c1, e1⟩ := ownsRow_block ho1 e.symm
    rw [hr1] at e1; simp at e1
  have k3 : Kept (fun k => some k = vL.ownBlock) w1 w3 := ⟨hg.os, hg.tape, hg.output, hg.size, fun k hk hn => hg.block k hk hn⟩
  have hb3 := k3.same hb1 ne1
  have hr3 := k3.same hr1 ne0
  have kw3 : Kept (fun _ => False) w w3 := (h.kept.trans hk1).step k3 (fun q hq e => by have := (ownsRow_lt ho1 e.symm).2; omega)
  have k5 : Kept (fun k => k = w.heap.size + 1) w3 w5 := by
    rw [h5]
    exact ((Kept.refl (fun k => k = w.heap.size + 1) w3).setCell (p := ⟨w.heap.size + 1, 0, none⟩) (fun _ => rfl) _).setCell (p := ⟨w.heap.size + 1, 1, none⟩) (fun _ => rfl) _
  have hb5 := heap_setCell_same _ _ 1 _ _ (.int .i64 (U2 : Int)) (heap_setCell_same _ _ 0 _ _ vL2 hb3)
  rw [← h5] at hb5
  refine ⟨hU3, by simpa using hb5, k5.same hr3 (by omega), ?_, h.rows.snoc hv, kw3.step k5 (fun q hq e => by omega), by have := h.len; simp; omega, ?_⟩
  · have hl : (vs ++ [Value.slice a (payL R).length c]).length = vs.length + 1 := by simp
    rw [hl]
    refine k5.owns hown (fun q e x => ?_)
    obtain ⟨c1, e1⟩ := ownsRow_block hown e
    rw [x, hb3] at e1; simp at e1
  · intro L u e hr
    have := h.rest (payL R :: L) (9 + sizeL R + u) e (by
      rw [← hR]
      refine .more R L u e he ?_
      rw [hR, List.drop_drop, ← hR, ← hU2]
      exact hr)
    rw [List.append_assoc, hU2, Nat.add_assoc]
    exact this
end Go.Proofs.YtficodklidaheaaDoor
