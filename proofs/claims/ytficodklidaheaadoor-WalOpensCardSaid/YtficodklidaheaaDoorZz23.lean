/- Texts put together: F21, F22. -/
import Derived.Test.YtficodklidaheaaDoorZz22
import Derived.Test.YtficodklidaheaaDoorZz9
import Derived.Deep.RegionWith
import Derived.Deep.Cut
/- package limnographref04: Scan. -/
namespace Go.Proofs.YtficodklidaheaaDoor
open Go.RowKit
attribute [local go_sem ↓] Go.wp_at_zero Go.wp_at_succ

/-- Rows of bytes by their slices. -/
def RowsV (w : World) (vs : List Value) (Ls : List (List Nat)) : Prop :=
  vs.length = Ls.length ∧ ∀ i, i < Ls.length → ∃ ai ci, vs[i]? = some (.slice ai (Ls.getD i []).length ci) ∧ Row8 w (.slice ai (Ls.getD i []).length ci) (Ls.getD i [])
theorem RowsV.snoc {w : World} {vs : List Value} {Ls : List (List Nat)} (h : RowsV w vs Ls) {a : Option Addr} {c : Nat} {l : List Nat} (hv : Row8 w (.slice a l.length c) l) : RowsV w (vs ++ [.slice a l.length c]) (Ls ++ [l]) := by
  refine ⟨by simp [h.1], fun i hi => ?_⟩
  rw [List.length_append] at hi
  by_cases hlt : i < Ls.length
  · obtain ⟨ai, ci, h1, h2⟩ := h.2 i hlt
    have e : (Ls ++ [l]).getD i [] = Ls.getD i [] := by simp only [List.getD_eq_getElem?_getD]; rw [List.getElem?_append_left hlt]
    rw [e]
    exact ⟨ai, ci, by rw [List.getElem?_append_left (by rw [h.1]; exact hlt)]; exact h1, h2⟩
  · have hi' : i = Ls.length := by simp at hi; omega
    subst hi'
    have e : (Ls ++ [l]).getD Ls.length [] = l := by simp only [List.getD_eq_getElem?_getD]; rw [List.getElem?_append_right (Nat.le_refl _)]; simp
    rw [e]
    exact ⟨a, c, by rw [← h.1]; simp, hv⟩
theorem RowsV.at_ {w w' : World} {B : Nat} {v : Value} {vs : List Value} {Ls : List (List Nat)} (h : RowsV w vs Ls) (hk : Kept (fun _ => False) w w') (ho : w'.ownsRow B 22 1 v vs.length vs) : RowsAt w' v Ls := by
  have hl := h.1
  obtain ⟨ao, c, rfl⟩ := ownsRow_slice ho
  rw [hl]
  refine ⟨ao, c, rfl, fun i hi => ?_⟩
  obtain ⟨ai, ci, h1, h2⟩ := h.2 i hi
  obtain ⟨g, cap, hv, _, _⟩ := own_at ho (by omega)
  injection hv with e1 e2 e3
  subst e1
  exact ⟨_, ai, ci, rfl, ho.cells (g := g) rfl i _ h1, h2.kept hk⟩

/-- What the document's Scan has behind U bytes. -/
structure RefAt (w : World) (l : List Nat) (U : Nat) (vL : Value) (vs : List Value) (Ls : List (List Nat)) (w' : World) : Prop where
  le : U ≤ l.length
  box : w'.heap[w.heap.size + 1]? = some (.cells #[vL, .int .i64 U, .int .i64 0] 34 (0, 0))
  res : w'.heap[w.heap.size]? = some (.cells #[.slice none 0 0, .int .i64 0, .int .i64 0] 34 (0, 0))
  own : w'.ownsRow w.heap.size 22 1 vL vs.length vs
  rows : RowsV w vs Ls
  kept : Kept (fun _ => False) w w'
  len : vs.length ≤ U
  rest : ∀ L u e, ScanR (l.drop U) L u e → ScanR l (Ls ++ L) (U + u) e

/-- What it answers. -/
def RefScanned (w : World) (l : List Nat) (e : Ending) (w' : World) : Prop :=
  ∃ v Ls u n, ScanR l Ls u n ∧ e = .returned (.agg #[v, .int .i64 ((u : Nat) : Int), .int .i64 ((n : Nat) : Int)]) ∧ RowsAt w' v Ls ∧ Kept (fun _ => False) w w' ∧ ∃ vs, w'.ownsRow w.heap.size 22 1 v vs.length vs ∧ RowsV w vs Ls
theorem RefAt.done {w w' w2 : World} {l : List Nat} {U : Nat} {vL : Value} {vs : List Value} {Ls : List (List Nat)} (h : RefAt w l U vL vs Ls w') (hd : U = l.length) (hk : Kept (fun k => k = w.heap.size) w' w2) :
    RefScanned w l (.returned (.agg #[vL, .int .i64 (U : Int), .int .i64 0])) w2 := by
  have hr := h.rest [] 0 0 (by rw [hd, List.drop_length]; exact .done)
  have hk2 : Kept (fun _ => False) w w2 := h.kept.step hk (fun q hq e => by omega)
  have ho := hk.owns h.own (fun q e x => by
    obtain ⟨c1, e1⟩ := ownsRow_block h.own e
    rw [x, h.res] at e1
    simp at e1)
  refine ⟨vL, _, _, _, hr, by simp, ?_, hk2, vs, ho, by rw [List.append_nil]; exact h.rows⟩
  rw [List.append_nil]
  exact h.rows.at_ hk2 ho
theorem RefAt.bad {w w' w2 : World} {l R : List Nat} {U : Nat} {vL : Value} {vs : List Value} {Ls : List (List Nat)} (h : RefAt w l U vL vs Ls w') (hd : U < l.length) (hR : R = l.drop U) (he : firstE R ≠ 0) (hk : Kept (fun k => k = w.heap.size ∨ k = w.heap.size + 1) w' w2) :
    RefScanned w l (.returned (.agg #[vL, .int .i64 (U : Int), .int .i64 ((firstE R : Nat) : Int)])) w2 := by
  have hr := h.rest [] 0 (firstE R) (by
    rw [← hR]
    refine .bad R ?_ he
    intro e
    rw [hR] at e
    have := congrArg List.length e
    rw [List.length_drop] at this
    simp at this
    omega)
  have hk2 : Kept (fun _ => False) w w2 := h.kept.step hk (fun q hq e => by omega)
  have ho := hk.owns h.own (fun q e x => by
    obtain ⟨c1, e1⟩ := ownsRow_block h.own e
    rcases x with x | x
    · rw [x, h.res] at e1; simp at e1
    · rw [x, h.box] at e1; simp at e1)
  refine ⟨vL, _, _, _, hr, by simp, ?_, hk2, vs, ho, by rw [List.append_nil]; exact h.rows⟩
  rw [List.append_nil]
  exact h.rows.at_ hk2 ho
theorem RefAt.step {w w' w1 w3 w5 : World} {l R : List Nat} {U U2 : Nat} {vL vL2 : Value} {vs : List Value} {Ls : List (List Nat)} {a : Option Addr} {c Z : Nat} (h : RefAt w l U vL vs Ls w') (hk1 : Kept (fun _ => False) w' w1) (hv : Row8 w (.slice a Z c) (payL R)) (hZ : Z = (payL R).length) (he : firstE R = 0) (hR : R = l.drop U) (hU2 : U2 = U + (9 + sizeL R)) (hU3 : U2 ≤ l.length)
    (hown : w3.ownsRow w.heap.size 22 1 vL2 (vs.length + 1) (vs ++ [.slice a Z c])) (hg : w1.grownBy w3 vL.ownBlock) (h5 : w5 = (w3.setCell ⟨w.heap.size + 1, 0, none⟩ vL2).setCell ⟨w.heap.size + 1, 1, none⟩ (.int .i64 (U2 : Int))) : RefAt w l U2 vL2 (vs ++ [.slice a Z c]) (Ls ++ [payL R]) w5 := by
  subst hZ
  have ho1 := hk1.owns h.own (fun _ _ x => x)
  have hb1 := hk1.same h.box (fun x => x)
  have hr1 := hk1.same h.res (fun x => x)
  have ne1 : ¬ some (w.heap.size + 1) = vL.ownBlock := fun e => by
    obtain ⟨c1, e1⟩ := ownsRow_block ho1 e.symm
    rw [hb1] at e1; simp at e1
  have ne0 : ¬ some w.heap.size = vL.ownBlock := fun e => by
    obtain ⟨c1, e1⟩ := ownsRow_block ho1 e.symm
    rw [hr1] at e1; simp at e1
  have k3 : Kept (fun k => some k = vL.ownBlock) w1 w3 := ⟨hg.os, hg.tape, hg.output, hg.size, fun k hk hn => hg.block k hk hn⟩
  have hb3 := k3.same hb1 ne1
  have hr3 := k3.same hr1 ne0
  have kw3 : Kept (fun _ => False) w w3 := (h.kept.trans hk1).step k3 (fun q hq e => by have := (ownsRow_lt ho1 e.symm).2; omega)
  have k5 : Kept (fun k => k = w.heap.size + 1) w3 w5 := by
    rw [h5]
    exact ((Kept.refl (fun k => k = w.heap.size + 1) w3).setCell (p := ⟨w.heap.size + 1, 0, none⟩) (fun _ => rfl) _).setCell (p := ⟨w.heap.size + 1, 1, none⟩) (fun _ => rfl) _
  have hb5 := heap_setCell_same _ _ 1 _ _ (.int .i64 (U2 : Int)) (heap_setCell_same _ _ 0 _ _ vL2 hb3)
  rw [← h5] at hb5
  refine ⟨hU3, by simpa using hb5, k5.same hr3 (by omega), ?_, h.rows.snoc hv, kw3.step k5 (fun q hq e => by omega), by have := h.len; simp; omega, ?_⟩
  · have hl : (vs ++ [Value.slice a (payL R).length c]).length = vs.length + 1 := by simp
    rw [hl]
    refine k5.owns hown (fun q e x => ?_)
    obtain ⟨c1, e1⟩ := ownsRow_block hown e
    rw [x, hb3] at e1; simp at e1
  · intro L u e hr
    have := h.rest (payL R :: L) (9 + sizeL R + u) e (by
      rw [← hR]
      refine .more R L u e he ?_
      rw [hR, List.drop_drop, ← hR, ← hU2]
      exact hr)
    rw [List.append_assoc, hU2, Nat.add_assoc]
    exact this
end Go.Proofs.YtficodklidaheaaDoor
/- package limnographref04: the walk of Scan. -/
namespace Go.Proofs.YtficodklidaheaaDoor
open Go.RowKit
attribute [local go_sem ↓] Go.wp_at_zero Go.wp_at_succ

theorem row_info : (Tryd.prog.info? 34).map (·.size) = some 3 := by kernel_rfl

set_option maxHeartbeats 4000000 in
set_option maxRecDepth 100000 in
theorem refScan_any (ao : Option Addr) (c : Nat) (l : List Nat) (hl : l.length ≤ 1000000000) (hcap : l.length ≤ c) (w : World) (HB : Row8 w (.slice ao l.length c) l) :
    Calls Tryd.prog 16 #[.slice ao l.length c] w (RefScanned w l) := by
  obtain ⟨i1, hi', hz0', hz1', hz2'⟩ := info_parts infoRow
  obtain ⟨VB, hVB⟩ : ∃ VB, VB = Value.slice ao l.length c := ⟨_, rfl⟩
  have HF : Hid (∀ U, U ≤ l.length → ∀ w1, Kept (fun _ => False) w w1 → Calls Tryd.prog 14 #[.slice ao l.length c, .int .i64 (U : Int)] w1 (RefGot VB l w1 (l.drop U))) := Lib.hid fun U hU w1 hk => by
    rw [hVB]; exact refFirst_any ao c l U hl hcap hU w1 (HB.kept hk)
  have HVB := Lib.hid hVB
  clear hVB
  have HB' := Lib.hid HB
  obtain ⟨N, hN⟩ : ∃ N, N = l.length := ⟨_, rfl⟩
  have HN := Lib.hid hN
  rw [← hN] at HF hl ⊢
  have K2 : Kept (fun _ => False) w ((w.alloc (.cells #[.slice none 0 0, .int .i64 0, .int .i64 0] 34)).alloc (.cells #[.slice none 0 0, .int .i64 0, .int .i64 0] 34)) := ((Kept.refl _ w).alloc _).alloc _
  have HST : Hid (RefAt w l 0 (.slice none 0 0) [] [] ((w.alloc (.cells #[.slice none 0 0, .int .i64 0, .int .i64 0] 34)).alloc (.cells #[.slice none 0 0, .int .i64 0, .int .i64 0] 34))) := Lib.hid (by
    refine ⟨by omega, ?_, ?_, World.ownsRow_nil _ _ _ _, ⟨rfl, fun i h => absurd h (by simp)⟩, K2, by simp, fun L u e h => by simpa using h⟩
    · have := heap_alloc_new (w.alloc (.cells #[.slice none 0 0, .int .i64 0, .int .i64 0] 34)) (.cells #[.slice none 0 0, .int .i64 0, .int .i64 0] 34)
      simpa using this
    · exact ((Kept.refl (fun _ => False) (w.alloc (.cells #[.slice none 0 0, .int .i64 0, .int .i64 0] 34))).alloc _).same (heap_alloc_new w _) (fun x => x))
  clear K2 HB hN hcap
  go_enter Tryd.func16, Tryd.ntmps16
  go_wp2
  go_loopw [] (fun wr => ∃ (U : Nat) (vL : Value) (vs : List Value) (Ls : List (List Nat)), RefAt w l U vL vs Ls wr) (fun wr => N - (intOf ((wr.cell? ⟨w.heap.size + 1, 1, none⟩).getD undef)).toNat)
  case atStart => exact ⟨0, _, _, _, HST.out⟩
  case round =>
    obtain ⟨U, vL, vs, Ls, hr⟩ := hrel
    have HR := Lib.hid hr
    have hU := hr.le
    rw [← HN.out] at hU
    obtain ⟨aL, cL, hv⟩ := ownsRow_slice hr.own
    subst hv
    have b0 : wr.cell? ⟨w.heap.size + 1, 0, none⟩ = some (.slice aL vs.length cL) := by rw [cell_of_row _ _ 0 _ _ _ hr.box]; rfl
    have b1 : wr.cell? ⟨w.heap.size + 1, 1, none⟩ = some (.int .i64 U) := by rw [cell_of_row _ _ 1 _ _ _ hr.box]; rfl
    have b2 : wr.cell? ⟨w.heap.size + 1, 2, none⟩ = some (.int .i64 0) := by rw [cell_of_row _ _ 2 _ _ _ hr.box]; rfl
    have r0 : wr.cell? ⟨w.heap.size, 0, none⟩ = some (.slice none 0 0) := by rw [cell_of_row _ _ 0 _ _ _ hr.res]; rfl
    have r1 : wr.cell? ⟨w.heap.size, 1, none⟩ = some (.int .i64 0) := by rw [cell_of_row _ _ 1 _ _ _ hr.res]; rfl
    have r2 : wr.cell? ⟨w.heap.size, 2, none⟩ = some (.int .i64 0) := by rw [cell_of_row _ _ 2 _ _ _ hr.res]; rfl
    clear hr
    by_cases hd : U < N
    · have hd' : (U : Int) < (N : Int) := by omega
      have q0 : decide ((U : Int) < (N : Int)) = true := decide_eq_true hd'
      obtain ⟨R, hRe⟩ : ∃ R, R = l.drop U := ⟨_, rfl⟩
      have F1 := HF.out U (by omega) wr HR.out.kept
      rw [← hRe] at F1
      have HF1 := Lib.hid F1
      have HRe := Lib.hid hRe
      have box1 : Hid (∀ w1, Kept (fun _ => False) wr w1 → w1.heap[w.heap.size + 1]? = some (.cells #[.slice aL vs.length cL, .int .i64 U, .int .i64 0] 34 (0, 0))) := Lib.hid fun w1 hk => hk.same HR.out.box (fun x => x)
      have res1 : Hid (∀ w1, Kept (fun _ => False) wr w1 → w1.heap[w.heap.size]? = some (.cells #[.slice none 0 0, .int .i64 0, .int .i64 0] 34 (0, 0))) := Lib.hid fun w1 hk => hk.same HR.out.res (fun x => x)
      clear F1 hRe b0 b2 r0 r1 r2
      by_cases he : firstE R = 0
      · have HX : Hid (∀ e w1, RefGot VB l wr R e w1 → ∃ a c1, e = .returned (.agg #[.slice a (sizeL R) c1, .int .i64 ((9 + sizeL R : Nat) : Int), .int .i64 0]) ∧ (∀ w0, Row8 w0 VB l → Row8 w0 (.slice a (sizeL R) c1) (payL R)) ∧ Kept (fun _ => False) wr w1) := Lib.hid fun e w1 h => by
          unfold RefGot at h; rw [if_pos he] at h; exact h
        have hsz := firstE_size R he
        have hRl : R.length = N - U := by rw [HRe.out, List.length_drop, HN.out]
        have hpl : sizeL R = (payL R).length := by unfold payL; rw [List.length_take, List.length_drop]; omega
        have HE := Lib.hid he
        have HPL := Lib.hid hpl
        obtain ⟨Z9, hZ9⟩ : ∃ Z9, Z9 = 9 + sizeL R := ⟨_, rfl⟩
        obtain ⟨U2, hU2⟩ : ∃ U2, U2 = U + Z9 := ⟨_, rfl⟩
        have HU2 : Hid (U2 = U + (9 + sizeL R)) := Lib.hid (by rw [hU2, hZ9])
        have hU3 : U2 ≤ N := by omega
        have hlt : N - U2 < N - U := by omega
        have u1 : (U : Int) + (Z9 : Int) = (U2 : Int) := by omega
        have u2 : IntKind.i64.wrap (U2 : Int) = (U2 : Int) := IntWalk.i64_in _ ⟨by omega, by omega⟩
        rw [← hZ9] at HX
        obtain ⟨Y, hY⟩ : ∃ Y, Y = sizeL R := ⟨_, rfl⟩
        rw [← hY] at HX HPL
        clear hsz hRl hpl he hZ9 hU2 hY
        go_upto_region 7 with (go_at_call 14; refine HF1.out.mono ?_; intro e w1 h1; obtain ⟨ax, cx, rfl, hrow, hk1⟩ := HX.out e w1 h1; have HK1 := Lib.hid hk1; have HROW := Lib.hid hrow; clear h1 hk1 hrow)
        have bx := box1.out _ (HK1.out.alloc (.cells #[.slice ax Y cx, .int .i64 (Z9 : Int), .int .i64 0] 28))
        have gx := heap_alloc_new w1 (.cells #[.slice ax Y cx, .int .i64 (Z9 : Int), .int .i64 0] 28)
        have KW := HK1.out.alloc (.cells #[.slice ax Y cx, .int .i64 (Z9 : Int), .int .i64 0] 28)
        obtain ⟨w2, hw2⟩ : ∃ w2, w2 = w1.alloc (.cells #[.slice ax Y cx, .int .i64 (Z9 : Int), .int .i64 0] 28) := ⟨_, rfl⟩
        rw [← hw2] at bx gx KW ⊢
        clear hw2
        have b0 : w2.cell? ⟨w.heap.size + 1, 0, none⟩ = some (.slice aL vs.length cL) := by rw [cell_of_row _ _ 0 _ _ _ bx]; rfl
        have g0 : w2.cell? ⟨w1.heap.size, 0, none⟩ = some (.slice ax Y cx) := by rw [cell_of_row _ _ 0 _ _ _ gx]; rfl
        have BX := Lib.hid bx
        have GX := Lib.hid gx
        have HKW := Lib.hid KW
        have HOWN := Lib.hid (KW.owns HR.out.own (fun _ _ x => x))
        clear bx gx KW
        go_wp2_with (at_builtin; refine wpList_append_src _ rfl (.tmp 23) (.tmp 26) 30 30 rfl w.heap.size 22 i1 (.slice none 0 0) 1 24 Tryd.underlying30 hi' hz0' hz1' hz2' rfl (.slice aL vs.length cL) vs.length vs rfl ?c0 (.slice (some ⟨w2.heap.size, 0, none⟩) 1 1) 1 [.slice ax Y cx] rfl ?cs ?c1 ?c2 ?c3 ?_)
        case c0 => exact ((Kept.refl (fun _ => False) w2).alloc _).owns HOWN.out (fun _ _ x => x)
        case cs => exact src_one _ Tryd.underlying30 _ rfl
        case c1 => have := HR.out.len; unfold maxLen; omega
        case c2 => have := HR.out.len; omega
        case c3 => have := HKW.out.size; have := HR.out.kept.size; simp; omega
        intro v3 w3 hown hg _ hat
        obtain ⟨a3, c3, hv3⟩ := ownsRow_slice hown
        obtain ⟨N1, hN1⟩ : ∃ N1, N1 = vs.length + 1 := ⟨_, rfl⟩
        have HN1 := Lib.hid hN1
        rw [← hN1] at hv3
        subst hv3
        try rw [← hN1]
        clear hN1
        have HOWN3 := Lib.hid hown
        have HG3 := Lib.hid hg
        have KA := (Kept.refl (fun _ => False) w2).alloc (.cells #[.slice ax Y cx] 22)
        have oA := KA.owns HOWN.out (fun _ _ x => x)
        have k3 : Kept (fun k => some k = (Value.slice aL vs.length cL).ownBlock) (w2.alloc (.cells #[.slice ax Y cx] 22)) w3 := ⟨hg.os, hg.tape, hg.output, hg.size, fun k hk hn => hg.block k hk hn⟩
        have bx3 := k3.same (KA.same BX.out (fun x => x)) (fun e => by
          obtain ⟨c1, e1⟩ := ownsRow_block oA e.symm
          rw [KA.same BX.out (fun x => x)] at e1; simp at e1)
        have gx3 := k3.same (KA.same GX.out (fun x => x)) (fun e => by
          obtain ⟨c1, e1⟩ := ownsRow_block oA e.symm
          rw [KA.same GX.out (fun x => x)] at e1; simp at e1)
        have b3 : w3.cell? ⟨w.heap.size + 1, 0, none⟩ = some (.slice aL vs.length cL) := by rw [cell_of_row _ _ 0 _ _ _ bx3]; rfl
        have f3 := frozen_of_row _ _ 0 _ _ bx3
        have hne : w1.heap.size ≠ w.heap.size + 1 := by
          have h1 := (Array.getElem?_eq_some_iff.1 (box1.out _ HK1.out)).1
          omega
        have BX3 := Lib.hid bx3
        have GX3 := Lib.hid gx3
        have HNE := Lib.hid hne
        clear b0 g0 bx3 gx3 k3 oA KA hown hg hat hne
        go_upto_region 8 with fail
        have bx4 := heap_setCell_same _ _ 0 _ _ (.slice a3 N1 c3) BX3.out
        have gx4 : (w3.setCell ⟨w.heap.size + 1, 0, none⟩ (.slice a3 N1 c3)).heap[w1.heap.size]? = _ := ((Kept.refl (fun k => k = w.heap.size + 1) w3).setCell (p := ⟨w.heap.size + 1, 0, none⟩) (fun _ => rfl) (.slice a3 N1 c3)).same GX3.out HNE.out
        obtain ⟨w4, hw4⟩ : ∃ w4, w4 = w3.setCell ⟨w.heap.size + 1, 0, none⟩ (.slice a3 N1 c3) := ⟨_, rfl⟩
        rw [← hw4] at bx4 gx4 ⊢
        have HW4 := Lib.hid hw4
        clear hw4 b3 f3
        have b4 : w4.cell? ⟨w.heap.size + 1, 1, none⟩ = some (.int .i64 U) := by rw [cell_of_row _ _ 1 _ _ _ bx4]; rfl
        have g4 : w4.cell? ⟨w1.heap.size, 1, none⟩ = some (.int .i64 (Z9 : Int)) := by rw [cell_of_row _ _ 1 _ _ _ gx4]; rfl
        have f4 := frozen_of_row _ _ 1 _ _ bx4
        have BX4 := Lib.hid bx4
        clear bx4 gx4
        have HB1 := Lib.hid b1
        clear b1
        have STEP : Hid (RefAt w l U2 (.slice a3 N1 c3) (vs ++ [.slice ax Y cx]) (Ls ++ [payL R]) (w4.setCell ⟨w.heap.size + 1, 1, none⟩ (.int .i64 (U2 : Int)))) :=
          Lib.hid (HR.out.step (HKW.out.alloc _) (HROW.out _ (by rw [HVB.out]; exact HB'.out)) HPL.out HE.out HRe.out HU2.out (by rw [← HN.out]; exact hU3) HOWN3.out HG3.out (by rw [HW4.out]))
        go_wp2
        go_roundw
        case rel => exact ⟨U2, _, _, _, STEP.out⟩
        case measure =>
          have c5 : (w4.setCell ⟨w.heap.size + 1, 1, none⟩ (.int .i64 (U2 : Int))).cell? ⟨w.heap.size + 1, 1, none⟩ = some (.int .i64 (U2 : Int)) := by rw [cell_of_row _ _ 1 _ _ _ STEP.out.box]; rfl
          rw [c5, HB1.out]
          simpa [intOf] using hlt
      · have HX : Hid (∀ e w1, RefGot VB l wr R e w1 → e = .returned (.agg #[.slice none 0 0, .int .i64 0, .int .i64 ((firstE R : Nat) : Int)]) ∧ Kept (fun _ => False) wr w1) := Lib.hid fun e w1 h => by
          unfold RefGot at h; rw [if_neg he] at h; exact h
        have HBAD := Lib.hid fun w2 hk => HR.out.bad (w2 := w2) (by rw [← HN.out]; exact hd) HRe.out he hk
        obtain ⟨E1, hE1⟩ : ∃ E1, E1 = firstE R := ⟨_, rfl⟩
        rw [← hE1] at HX HBAD he
        have q2 : ((E1 : Int) != 0) = true := by simp; omega
        clear hE1 he
        go_upto_region 5 with (go_at_call 14; refine HF1.out.mono ?_; intro e w1 h1; obtain ⟨rfl, hk1⟩ := HX.out e w1 h1; have HK1 := Lib.hid hk1; clear h1 hk1)
        have bx := box1.out _ (HK1.out.alloc (.cells #[.slice none 0 0, .int .i64 0, .int .i64 (E1 : Int)] 28))
        have rs := res1.out _ (HK1.out.alloc (.cells #[.slice none 0 0, .int .i64 0, .int .i64 (E1 : Int)] 28))
        have KW : Kept (fun k => k = w.heap.size ∨ k = w.heap.size + 1) wr (w1.alloc (.cells #[.slice none 0 0, .int .i64 0, .int .i64 (E1 : Int)] 28)) := (HK1.out.alloc _).mono (fun _ _ x => x.elim)
        have g2 : (w1.alloc (.cells #[.slice none 0 0, .int .i64 0, .int .i64 (E1 : Int)] 28)).cell? ⟨w1.heap.size, 2, none⟩ = some (.int .i64 (E1 : Int)) := by rw [cell_of_row _ _ 2 _ _ _ (heap_alloc_new w1 _)]; rfl
        obtain ⟨w2, hw2⟩ : ∃ w2, w2 = w1.alloc (.cells #[.slice none 0 0, .int .i64 0, .int .i64 (E1 : Int)] 28) := ⟨_, rfl⟩
        rw [← hw2] at bx rs KW g2 ⊢
        clear hw2
        have b2 : w2.cell? ⟨w.heap.size + 1, 2, none⟩ = some (.int .i64 0) := by rw [cell_of_row _ _ 2 _ _ _ bx]; rfl
        have f2 := frozen_of_row _ _ 2 _ _ bx
        have BX := Lib.hid bx
        have RS := Lib.hid rs
        have KWH := Lib.hid KW
        clear bx rs KW b1
        go_upto_region 6 with fail
        have bx3 := heap_setCell_same _ _ 2 _ _ (.int .i64 (E1 : Int)) BX.out
        have rs3 : (w2.setCell ⟨w.heap.size + 1, 2, none⟩ (.int .i64 (E1 : Int))).heap[w.heap.size]? = _ := ((Kept.refl (fun k => k = w.heap.size + 1) w2).setCell (p := ⟨w.heap.size + 1, 2, none⟩) (fun _ => rfl) (.int .i64 (E1 : Int))).same RS.out (by omega)
        have KW3 : Kept (fun k => k = w.heap.size ∨ k = w.heap.size + 1) wr (w2.setCell ⟨w.heap.size + 1, 2, none⟩ (.int .i64 (E1 : Int))) := KWH.out.setCell (p := ⟨w.heap.size + 1, 2, none⟩) (fun _ => .inr rfl) _
        obtain ⟨w3, hw3⟩ : ∃ w3, w3 = w2.setCell ⟨w.heap.size + 1, 2, none⟩ (.int .i64 (E1 : Int)) := ⟨_, rfl⟩
        rw [← hw3] at bx3 rs3 KW3 ⊢
        clear hw3 b2 f2 g2
        have b0 : w3.cell? ⟨w.heap.size + 1, 0, none⟩ = some (.slice aL vs.length cL) := by rw [cell_of_row _ _ 0 _ _ _ bx3]; rfl
        have b1 : w3.cell? ⟨w.heap.size + 1, 1, none⟩ = some (.int .i64 U) := by rw [cell_of_row _ _ 1 _ _ _ bx3]; rfl
        have b2 : w3.cell? ⟨w.heap.size + 1, 2, none⟩ = some (.int .i64 (E1 : Int)) := by rw [cell_of_row _ _ 2 _ _ _ bx3]; rfl
        have r0 : w3.cell? ⟨w.heap.size, 0, none⟩ = some (.slice none 0 0) := by rw [cell_of_row _ _ 0 _ _ _ rs3]; rfl
        have r1 : w3.cell? ⟨w.heap.size, 1, none⟩ = some (.int .i64 0) := by rw [cell_of_row _ _ 1 _ _ _ rs3]; rfl
        have r2 : w3.cell? ⟨w.heap.size, 2, none⟩ = some (.int .i64 0) := by rw [cell_of_row _ _ 2 _ _ _ rs3]; rfl
        have f0 := frozen_of_row _ _ 0 _ _ rs3
        have f1 := frozen_of_row _ _ 1 _ _ rs3
        have f2 := frozen_of_row _ _ 2 _ _ rs3
        have HRES := Lib.hid rs3
        have FIN : Hid (RefScanned w l (.returned (.agg #[.slice aL vs.length cL, .int .i64 U, .int .i64 (E1 : Int)])) (((w3.setCell ⟨w.heap.size, 0, none⟩ (.slice aL vs.length cL)).setCell ⟨w.heap.size, 1, none⟩ (.int .i64 U)).setCell ⟨w.heap.size, 2, none⟩ (.int .i64 (E1 : Int)))) :=
          Lib.hid (HBAD.out _ (((KW3.setCell (p := ⟨w.heap.size, 0, none⟩) (fun _ => .inl rfl) _).setCell (p := ⟨w.heap.size, 1, none⟩) (fun _ => .inl rfl) _).setCell (p := ⟨w.heap.size, 2, none⟩) (fun _ => .inl rfl) _))
        clear bx3 rs3 KW3
        go_wp2
        refine bodyPost_ret (v := .agg #[.slice aL vs.length cL, .int .i64 U, .int .i64 (E1 : Int)]) ?_ rfl ?_
        · exact results_cell_row Tryd.results16 _ _ w.heap.size 34 _ (0, 0) _ rfl (three_set HRES.out) Tryd.underlying34 rfl row_info
        · exact FIN.out
    · have hUN : U = N := by omega
      have q0 : decide ((U : Int) < (N : Int)) = false := decide_eq_false (by omega)
      have f0 := frozen_of_row _ _ 0 _ _ HR.out.res
      have f1 := frozen_of_row _ _ 1 _ _ HR.out.res
      have f2 := frozen_of_row _ _ 2 _ _ HR.out.res
      have KK : Kept (fun k => k = w.heap.size) wr (((wr.setCell ⟨w.heap.size, 0, none⟩ (.slice aL vs.length cL)).setCell ⟨w.heap.size, 1, none⟩ (.int .i64 U)).setCell ⟨w.heap.size, 2, none⟩ (.int .i64 0)) :=
        (((Kept.refl (fun k => k = w.heap.size) wr).setCell (p := ⟨w.heap.size, 0, none⟩) (fun _ => rfl) _).setCell (p := ⟨w.heap.size, 1, none⟩) (fun _ => rfl) _).setCell (p := ⟨w.heap.size, 2, none⟩) (fun _ => rfl) _
      have FIN := Lib.hid (HR.out.done (by rw [hUN, HN.out]) KK)
      have HRES := Lib.hid HR.out.res
      clear KK hUN
      go_wp2
      refine bodyPost_ret (v := .agg #[.slice aL vs.length cL, .int .i64 U, .int .i64 0]) ?_ rfl ?_
      · exact results_cell_row Tryd.results16 _ _ w.heap.size 34 _ (0, 0) _ rfl (three_set HRES.out) Tryd.underlying34 rfl row_info
      · exact FIN.out
end Go.Proofs.YtficodklidaheaaDoor
