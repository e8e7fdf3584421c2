/- package crc, layer 3: twice, ofByte. -/
import Derived.Test.YtanhdjdojeoodaaDoorC3
import Derived.StillTailTactics
import Derived.Deep.RegionWith
import Derived.Deep.RegionLaw
import Derived.Deep.DeepCutAuto
namespace Go.Proofs.YtanhdjdojeoodaaDoor
open Go.RowKit
attribute [local go_sem ↓] Go.wp_at_zero Go.wp_at_succ

theorem still_load_row {P : Program} {o : Oper} {a : Act} {w : World} {K : Act → Prop} (ty : TypeId) (x : Operand) (ho : o.op = .load ty x)
    (g : Nat) (hx : a.eval x = .pointer (some ⟨g, 0, none⟩)) (t : TypeId) (cs : Array Value) (fr : Nat × Nat) (d : TypeDesc) (hg : w.heap[g]? = some (.cells cs t fr))
    (hu : P.underlying ty = some d) (hd : (match d with | .struct _ | .array _ _ => true | _ => false) = true) (hi : (P.info? ty).map (·.size) = some cs.size)
    (h : K (a.put o.dst (.agg cs))) : o.still P a w K := by
  unfold Oper.still execOp
  simp only [ho, hx, Instr.loadAt, Instr.sureAddr, Sem.run_bind, Sem.run_pure, Result.andThen_ok, run_loadVar_row w g t ty cs fr d hg hu hd hi]
  exact ⟨rfl, h⟩

theorem kept_setRow {S : Nat → Prop} {a b : World} {g : Nat} (h : Kept S a b) (hg : a.heap.size ≤ g) (cs : Array Value) : Kept S a (b.setRow g cs) :=
  ⟨h.os, h.tape, h.output, by simpa using h.size, fun k hk hn => by rw [setRow_other _ _ _ _ (by omega)]; exact h.block k hk hn⟩
def arr (l : List Nat) : Obj := .cells (u32s l).toArray 37
/-- What twice has made behind k rounds. -/
structure Tw (tab : List Nat) (w wr : World) (k : Nat) : Prop where
  kept : Kept (fun _ => False) w wr
  size : wr.heap.size ≥ w.heap.size + 3
  src : wr.heap[w.heap.size]? = some (arr tab)
  res : ∃ l, l.length = 32 ∧ wr.heap[w.heap.size + 1]? = some (arr l)
  out : wr.heap[w.heap.size + 1 + 1]? = some (arr (twK tab k))

theorem size_ok (l : List Nat) (h : l.length = 32) : (Tryd.prog.info? 37).map (·.size) = some (u32s l).toArray.size := by
  have e : (Tryd.prog.info? 37).map (·.size) = some 32 := by kernel_rfl
  rw [e]; simp [u32s_length, h]
theorem arr_cell {w : World} {g j : Nat} {l : List Nat} (h : w.heap[g]? = some (arr l)) (hj : j < l.length) : w.cell? ⟨g, j, none⟩ = some (.int .u32 ((l.getD j 0 : Nat) : Int)) := by
  rw [cell_of_row _ _ j _ _ _ h]
  simpa using u32s_at l j hj
theorem arr_free {w : World} {g j : Nat} {l : List Nat} (h : w.heap[g]? = some (arr l)) : w.frozen? ⟨g, j, none⟩ = false := frozen_of_row w g j _ _ h
theorem arr_set {w : World} {g j : Nat} {l : List Nat} (h : w.heap[g]? = some (arr l)) (x : Nat) : (w.setCell ⟨g, j, none⟩ (.int .u32 (x : Int))).heap[g]? = some (arr (l.set j x)) := by
  rw [heap_setCell_same _ _ _ _ _ _ h]
  unfold arr
  congr 2
  apply Array.ext'
  simp [u32s, List.map_set]
theorem load_all {P : Program} {w : World} {g : Nat} {l : List Nat} (h : w.heap[g]? = some (arr l)) (hl : l.length = 32) : (loadCellsFrom ⟨g, 0, none⟩ 0 32 #[]).run P w = .ok (u32s l).toArray w := by
  have := run_loadCells_list (P := P) w ⟨g, 0, none⟩ (u32s l) (fun j v hv => by
    have hadd : (⟨g, 0, none⟩ : Addr).add j = ⟨g, j, none⟩ := by unfold Addr.add; split <;> simp_all
    rw [hadd, cell_of_row _ _ j _ _ _ h]
    simpa using hv)
  rw [u32s_length, hl] at this
  exact this
namespace Tw
theorem drew {tab : List Nat} {w wr : World} {k : Nat} (h : Tw tab w wr k) : Tw tab w wr.drew k := ⟨h.kept.drew, h.size, h.src, h.res, h.out⟩
theorem step {tab : List Nat} {w wr w3 : World} {k : Nat} (h : Tw tab w wr k) (hk : Kept (fun _ => False) wr w3) : Tw tab w w3 k := by
  refine ⟨h.kept.trans hk, Nat.le_trans h.size hk.size, hk.same h.src fun x => x, ?_, hk.same h.out fun x => x⟩
  obtain ⟨l, hl, h1⟩ := h.res
  exact ⟨l, hl, hk.same h1 fun x => x⟩
theorem stored {tab : List Nat} {w wr : World} {k : Nat} (h : Tw tab w wr k) (hk : k < 32) : Tw tab w (wr.setCell ⟨w.heap.size + 1 + 1, k, none⟩ (.int .u32 ((ofK tab (tab.getD k 0) 32 : Nat) : Int))) (k + 1) := by
  refine ⟨h.kept.setCell (fun x => by simp only at x; omega) _, by simpa using h.size, ?_, ?_, ?_⟩
  · rw [heap_setCell_other _ _ _ _ (by show w.heap.size ≠ w.heap.size + 1 + 1; omega)]; exact h.src
  · obtain ⟨l, hl, h1⟩ := h.res
    exact ⟨l, hl, by rw [heap_setCell_other _ _ _ _ (by show w.heap.size + 1 ≠ w.heap.size + 1 + 1; omega)]; exact h1⟩
  · rw [arr_set h.out _, twK_set _ _ hk]
end Tw

set_option maxHeartbeats 1000000 in
theorem twice_any (tab : List Nat) (ht : tab.length = 32) (hlt : ∀ x ∈ tab, x < 4294967296) (w : World) :
    Calls Tryd.prog 17 #[.agg (u32s tab).toArray] w fun e w' => e = .returned (.agg (u32s (twK tab 32)).toArray) ∧ Kept (fun _ => False) w w' := by
  have hi32 : (Tryd.prog.info? 37).map (·.size) = some (u32s tab).toArray.size := size_ok _ ht
  have hiT : (Tryd.prog.info? 37).map (·.size) = some (u32s (twK tab 32)).toArray.size := size_ok _ (twK_length _ _)
  have HI := Lib.hid hi32
  have HT := Lib.hid hiT
  clear hi32 hiT
  go_enter Tryd.func17, Tryd.ntmps17
  go_wp2_with (refine wpList_store_row rfl 37 (.tmp 3) _ rfl (w.heap.size + 1 + 1) (u32s (twK tab 0)).toArray rfl rfl 37 (u32s (twK tab 0)).toArray ?_ (size_ok _ (twK_length _ _)) rfl (u32s_all _) ?_)
  · have hs : w.heap.size + 1 + 1 = ((w.alloc (arr tab)).alloc (arr (twK tab 0))).heap.size := by simp
    rw [hs]
    exact heap_alloc_last ((w.alloc (arr tab)).alloc (arr (twK tab 0))) (arr (twK tab 0))
  go_loopw [6] (fun t wr => ∃ j : Nat, j ≤ 32 ∧ t = .int .i64 j ∧ Tw tab w wr j) (fun t _ => 32 - (intOf t).toNat)
  case atStart =>
    refine ⟨0, by omega, rfl, ?_⟩
    have hs : w.heap.size + 1 + 1 = ((w.alloc (arr tab)).alloc (arr (twK tab 0))).heap.size := by simp
    have h0 : Tw tab w (((w.alloc (arr tab)).alloc (arr (twK tab 0))).alloc (arr (twK tab 0))) 0 := by
      refine ⟨(((Kept.refl _ _).alloc _).alloc _).alloc _, by simp, ?_, ⟨twK tab 0, twK_length _ _, ?_⟩, ?_⟩
      · rw [heap_alloc_old _ _ (by simp; omega), heap_alloc_old _ _ (by simp)]; exact heap_alloc_last _ _
      · rw [heap_alloc_old _ _ (by simp)]
        have := heap_alloc_last (w.alloc (arr tab)) (arr (twK tab 0))
        simpa using this
      · rw [hs]; exact heap_alloc_last _ _
    have e := World.setRow_alloc_new ((w.alloc (arr tab)).alloc (arr (twK tab 0))) (u32s (twK tab 0)).toArray (u32s (twK tab 0)).toArray 37
    rw [← hs] at e
    have h1 : Tw tab w ((((w.alloc (arr tab)).alloc (arr (twK tab 0))).alloc (arr (twK tab 0))).setRow (w.heap.size + 1 + 1) (u32s (twK tab 0)).toArray) 0 := by
      rw [show (((w.alloc (arr tab)).alloc (arr (twK tab 0))).alloc (arr (twK tab 0))).setRow (w.heap.size + 1 + 1) (u32s (twK tab 0)).toArray = _ from e]
      exact h0
    exact h1
  case round =>
    obtain ⟨j, hj, rfl, HW⟩ := hrel
    by_cases hd : j < 32
    · have hd' : (j : Int) < 32 := by omega
      have hj0 : (0 : Int) ≤ (j : Int) := by omega
      go_upto_region 5 with fail
      have hT0 : tab.getD j 0 < 4294967296 := by
        apply hlt
        rw [List.getD_eq_getElem?_getD, List.getElem?_eq_getElem (by omega)]; simp
      have hc := arr_cell (j := j) HW.src (by omega)
      obtain ⟨T, hT⟩ : ∃ T, T = tab.getD j 0 := ⟨_, rfl⟩
      rw [← hT] at hc hT0
      have HT1 := Lib.hid hT
      clear hT
      have HWd := HW.drew
      have HD := Lib.hid HWd
      have hsrc := Lib.hid HWd.src
      clear HW HWd
      have hd1 : j < 32 := hd
      refine wp_region_any (by kernel_rfl) ?_
      change wpAny _ _ _ _ _ _ _ (World.drew _)
      refine wpAny_take (i := 0) (v := ?v0) rfl (by kernel_rfl) (by kernel_rfl) (by kernel_rfl) (fun _ _ _ h => h) (Or.inl ⟨by rfl, ?hy0⟩) ?rest0
      case hy0 => intro w; go_simp; try with_reducible rfl
      refine wpAny_take (i := 2) (v := ?v2) rfl (by kernel_rfl) (by kernel_rfl) (by kernel_rfl) (fun _ _ _ h => h) (Or.inl ⟨by rfl, ?hy2⟩) ?rest2
      case hy2 => intro w; go_simp; try with_reducible rfl
      refine wpAny_take (i := 3) (v := ?v3) rfl (by kernel_rfl) (by kernel_rfl) (by kernel_rfl) (fun _ _ _ h => h) (Or.inl ⟨by rfl, ?hy3⟩) ?rest3
      case hy3 => intro w; go_simp; try with_reducible rfl
      refine wpAny_ready (rs := [1, 4]) (by kernel_rfl) (by simp) ?_
      refine AllReady.cons rfl (fun K hK => ?_) (AllReady.cons rfl (fun K hK => ?_) AllReady.nil)
      · rw [if_pos (show Region.wanted _ _ = true from rfl)]
        refine wp_load_row 37 _ rfl w.heap.size rfl 37 (u32s tab).toArray (0, 0) _ hsrc.out Tryd.underlying37 rfl HI.out ?_
        refine hK _ _ ?_
        clear hK K
        refine wpAny_ready (rs := [4]) (by kernel_rfl) (by simp) ?_
        refine AllReady.cons rfl (fun K hK => ?_) AllReady.nil
        go_simp
        refine hK _ _ ?_
        clear hK K
        refine wpAny_ready (rs := [5]) (by kernel_rfl) (by simp) ?_
        refine AllReady.cons rfl (fun K hK => ?_) AllReady.nil
        go_simp
        go_wp2_with (go_at_call 16; refine (of_any tab T ht hlt hT0 _).mono ?_; rintro e w3 ⟨rfl, hk⟩)
        rename_i w3 hk
        have hW3 := HD.out.step hk
        have hc3 := arr_cell (j := j) hW3.out (by rw [twK_length]; exact hd1)
        have hf3 := arr_free (j := j) hW3.out
        have hst := Lib.hid (hW3.stored hd1)
        clear hW3 hk hc
        refine wpAny_take (i := 6) (v := ?v6) rfl (by kernel_rfl) (by kernel_rfl) (by kernel_rfl) (fun _ _ _ h => h) (Or.inl ⟨by rfl, ?hy6⟩) ?rest6
        case hy6 => intro w; go_simp; try with_reducible rfl
        refine wpAny_ready (rs := [7]) (by kernel_rfl) (by simp) ?_
        refine AllReady.cons rfl (fun K hK => ?_) AllReady.nil
        go_simp
        refine hK _ _ ?_
        clear hK K
        refine wpAny_done (by kernel_rfl) ?_ _
        go_wp2
        go_roundw
        case rel => exact ⟨j + 1, hd1, by go_num, by rw [← HT1.out] at hst; exact hst.out⟩
        case measure => simp [intOf]; omega
      · go_simp
        refine hK _ _ ?_
        clear hK K
        refine wpAny_ready (rs := [1]) (by kernel_rfl) (by simp) ?_
        refine AllReady.cons rfl (fun K hK => ?_) AllReady.nil
        rw [if_pos (show Region.wanted _ _ = true from rfl)]
        refine wp_load_row 37 _ rfl w.heap.size rfl 37 (u32s tab).toArray (0, 0) _ hsrc.out Tryd.underlying37 rfl HI.out ?_
        refine hK _ _ ?_
        clear hK K
        refine wpAny_ready (rs := [5]) (by kernel_rfl) (by simp) ?_
        refine AllReady.cons rfl (fun K hK => ?_) AllReady.nil
        go_simp
        go_wp2_with (go_at_call 16; refine (of_any tab T ht hlt hT0 _).mono ?_; rintro e w3 ⟨rfl, hk⟩)
        rename_i w3 hk
        have hW3 := HD.out.step hk
        have hc3 := arr_cell (j := j) hW3.out (by rw [twK_length]; exact hd1)
        have hf3 := arr_free (j := j) hW3.out
        have hst := Lib.hid (hW3.stored hd1)
        clear hW3 hk hc
        refine wpAny_take (i := 6) (v := ?v6b) rfl (by kernel_rfl) (by kernel_rfl) (by kernel_rfl) (fun _ _ _ h => h) (Or.inl ⟨by rfl, ?hy6b⟩) ?rest6b
        case hy6b => intro w; go_simp; try with_reducible rfl
        refine wpAny_ready (rs := [7]) (by kernel_rfl) (by simp) ?_
        refine AllReady.cons rfl (fun K hK => ?_) AllReady.nil
        go_simp
        refine hK _ _ ?_
        clear hK K
        refine wpAny_done (by kernel_rfl) ?_ _
        go_wp2
        go_roundw
        case rel => exact ⟨j + 1, hd1, by go_num, by rw [← HT1.out] at hst; exact hst.out⟩
        case measure => simp [intOf]; omega
    · obtain rfl : j = 32 := by omega
      have hout := Lib.hid HW.out
      obtain ⟨l0, hl0, hres⟩ := HW.res
      have hres' := Lib.hid hres
      have hsz := Lib.hid (size_ok _ hl0)
      have hlen : (u32s l0).toArray.size = (u32s (twK tab 32)).toArray.size := by simp [u32s_length, hl0, twK_length]
      have hlen' := Lib.hid hlen
      have hK0 := Lib.hid HW.kept
      have hS0 := HW.size
      clear HW hres hlen
      go_wp2_with (first
        | (refine wpList_load_row rfl 37 (.tmp 3) rfl (w.heap.size + 1 + 1) rfl 37 (u32s (twK tab 32)).toArray (0, 0) _ hout.out Tryd.underlying37 rfl HT.out ?_)
        | (refine wpList_store_row rfl 37 (.tmp 2) _ rfl (w.heap.size + 1) (u32s (twK tab 32)).toArray rfl rfl 37 (u32s l0).toArray hres'.out HT.out hlen'.out (u32s_all _) ?_))
      refine bodyPost_ret (v := .agg (u32s (twK tab 32)).toArray) ?_ rfl ⟨rfl, ?_⟩
      · exact results_cell_row Tryd.results17 _ _ (w.heap.size + 1) 37 _ (0, 0) _ rfl (setRow_heap _ _ _ _ _ _ hres'.out) Tryd.underlying37 rfl HT.out
      · exact kept_setRow hK0.out (by omega) _
end Go.Proofs.YtanhdjdojeoodaaDoor
