/- Layer 12: reader.value (written by tools/gen_XI10.py). -/
import Derived.Test.YteflepcmblacaaaGreatDoorI9
import Derived.Test.YteflepcmblacaaaGreatDoorI7
namespace Go.Proofs.YteflepcmblacaaaGreatDoor
open Go.RowKit
attribute [local go_sem ↓] Go.wp_at_zero Go.wp_at_succ

theorem ptAll (na : ByteArray) (aa pa nb : Option Addr) (al ac pl pc nl nc : Nat) (k te st en z : Int) (mo : Bool) (re im sc ze po no fl : Int) : (#[Value.string na, .slice aa al ac, .int .i64 k, .int .i64 te, .bool mo, .int .i64 st, .int .i64 en, .int .i64 z, .int .u64 re, .int .u64 im, .int .i64 sc, .int .u64 ze, .int .i64 po, .slice pa pl pc, .int .i64 no, .slice nb nl nc, .int .i64 fl] : Array Value).all (·.oneCell') = true := by simp [Value.oneCell']
theorem own_lower {w : World} {B B' n : Nat} {v : Value} {xs : List Nat} (h : w.ownsRow B 23 1 v n (uvals xs)) (hb : B' ≤ B) : w.ownsRow B' 23 1 v n (uvals xs) := wown_base h hb
/-- The boxes of value: the reader's, the point's, the answer's. -/
structure VB (W w wr : World) (p q : Nat) (cs zs : Array Value) (l rest : List Int) : Prop where
  rd : RL W wr p l rest
  rb : wr.heap[q]? = some (.cells #[.pointer (some ⟨p, 0, none⟩)] 70 (0, 0))
  pb : wr.heap[q + 1]? = some (.cells cs 30 (0, 0))
  res : wr.heap[q + 1 + 1]? = some (.cells zs 30 (0, 0))
  kp : Kept (fun k => k = p) w wr
  pos : W.heap.size ≤ w.heap.size ∧ w.heap.size ≤ q
section
variable {W w wr w' : World} {p q : Nat} {cs zs : Array Value} {l rest rest' : List Int}
theorem VB.on (h : VB W w wr p q cs zs l rest) (k : Kept (fun _ => False) wr w') : VB W w w' p q cs zs l rest :=
  ⟨h.rd.kept k, k.same h.rb (fun x => x), k.same h.pb (fun x => x), k.same h.res (fun x => x), h.kp.trans (k.mono (fun _ _ x => x.elim)), h.pos⟩
theorem RL.ne (h : RL W wr p l rest) {j : Nat} {cs' : Array Value} {T : TypeId} (hj : wr.heap[j]? = some (.cells cs' T (0, 0))) (hT : T ≠ 96) : j ≠ p := by
  obtain ⟨cs, hb⟩ := h.box
  intro e
  subst e
  rw [hb] at hj
  injection hj with hj
  injection hj with _ hj
  exact hT hj.symm
theorem VB.read (h : VB W w wr p q cs zs l rest) (k : Kept (fun k => k = p) wr w') (hr : RL W w' p l rest') : VB W w w' p q cs zs l rest' :=
  ⟨hr, k.same h.rb (h.rd.ne h.rb (by decide)), k.same h.pb (h.rd.ne h.pb (by decide)), k.same h.res (h.rd.ne h.res (by decide)), h.kp.trans k, h.pos⟩
theorem VB.set (h : VB W w wr p q cs zs l rest) (j : Nat) (u : Value) : VB W w (wr.setCell ⟨q + 1, j, none⟩ u) p q (cs.setIfInBounds j u) zs l rest := by
  have k : Kept (fun k => k = q + 1) wr (wr.setCell ⟨q + 1, j, none⟩ u) := (Kept.refl (fun k => k = q + 1) wr).setCell (p := ⟨q + 1, j, none⟩) (fun _ => rfl) u
  have hp := h.pos
  refine ⟨h.rd.blk k (fun i e => ?_), k.same h.rb (by omega), heap_setCell_same _ _ j _ _ u h.pb, k.same h.res (by omega), h.kp.step k (fun i hi e => by omega), h.pos⟩
  subst e
  exact ⟨by omega, _, _, _, h.pb, by decide, by decide⟩
theorem setRow_keptW (w : World) (g : Nat) (cs : Array Value) : Kept (fun k => k = g) w (w.setRow g cs) :=
  ⟨rfl, rfl, rfl, by simp [World.setRow], fun k _ hn => by rw [setRow_other _ _ _ _ (by exact fun e => hn e)]⟩
theorem VB.fin (h : VB W w wr p q cs zs l rest) : (wr.setRow (q + 1 + 1) cs).heap[q + 1 + 1]? = some (.cells cs 30 (0, 0)) ∧ RL W (wr.setRow (q + 1 + 1) cs) p l rest ∧ Kept (fun k => k = p) w (wr.setRow (q + 1 + 1) cs) := by
  have k := setRow_keptW wr (q + 1 + 1) cs
  have hp := h.pos
  refine ⟨setRow_heap _ _ _ _ _ _ h.res, h.rd.blk k (fun i e => ?_), h.kp.step k (fun i hi e => by omega)⟩
  subst e
  exact ⟨by omega, _, _, _, h.res, by decide, by decide⟩
theorem own_row (w0 wr : World) (g : Nat) (cs zs : Array Value) {v : Value} {n : Nat} {xs : List Value} (h : wr.ownsRow w0.heap.size 23 1 v n xs) (hz : wr.heap[g]? = some (.cells zs 30 (0, 0))) : (wr.setRow g cs).ownsRow w0.heap.size 23 1 v n xs :=
  (setRow_keptW wr g cs).owns h (fun j e x => own_box h hz (by decide) (by rw [e, x]))
theorem own_set (w0 wr : World) (g j : Nat) (u : Value) {cs : Array Value} {v : Value} {n : Nat} {xs : List Value} (h : wr.ownsRow w0.heap.size 23 1 v n xs) (hz : wr.heap[g]? = some (.cells cs 30 (0, 0))) : (wr.setCell ⟨g, j, none⟩ u).ownsRow w0.heap.size 23 1 v n xs :=
  ((Kept.refl (fun k => k = g) wr).setCell (p := ⟨g, j, none⟩) (fun _ => rfl) u).owns h (fun i e x => own_box h hz (by decide) (by rw [e, x]))
theorem own_read {v : Value} {n : Nat} {xs : List Value} {B : Nat} (h : wr.ownsRow B 23 1 v n xs) (hr : RL W wr p l rest) (k : Kept (fun k => k = p) wr w') : w'.ownsRow B 23 1 v n xs := by
  obtain ⟨cs, hb⟩ := hr.box
  exact k.owns h (fun j e x => own_box h hb (by decide) (by rw [e, x]))
end
set_option maxRecDepth 100000 in
set_option maxHeartbeats 8000000 in
theorem rdValue1 {W w : World} {p : Nat} {l rest : List Int} (z : Int) (na : ByteArray) (aa : Option Addr) (al ac : Nat) (te : Int) (mo : Bool) (st en fl : Int) (h : RL W w p l (numB (zigI z) ++ rest)) (hl : l.length ≤ 100000000000) (hz : -9223372036854775808 ≤ z ∧ z ≤ 9223372036854775807) :
    Calls Tryz.prog 37 #[.agg #[.pointer (some ⟨p, 0, none⟩)], .agg #[.string na, .slice aa al ac, .int .i64 1, .int .i64 te, .bool mo, .int .i64 st, .int .i64 en, .int .i64 0, .int .u64 0, .int .u64 0, .int .i64 0, .int .u64 0, .int .i64 0, .slice none 0 0, .int .i64 0, .slice none 0 0, .int .i64 fl]] w fun e w' => e = .returned (.agg #[.string na, .slice aa al ac, .int .i64 1, .int .i64 te, .bool mo, .int .i64 st, .int .i64 en, .int .i64 z, .int .u64 0, .int .u64 0, .int .i64 0, .int .u64 0, .int .i64 0, .slice none 0 0, .int .i64 0, .slice none 0 0, .int .i64 fl]) ∧ RL W w' p l rest ∧ Kept (fun k => k = p) w w' := by
  have HLL := Lib.hid hl
  obtain ⟨q, hq⟩ : ∃ q, q = w.heap.size := ⟨_, rfl⟩
  obtain ⟨w3, hw3⟩ : ∃ w3, w3 = ((w.alloc (.cells #[.pointer (some ⟨p, 0, none⟩)] 70)).alloc (.cells #[.string na, .slice aa al ac, .int .i64 1, .int .i64 te, .bool mo, .int .i64 st, .int .i64 en, .int .i64 0, .int .u64 0, .int .u64 0, .int .i64 0, .int .u64 0, .int .i64 0, .slice none 0 0, .int .i64 0, .slice none 0 0, .int .i64 fl] 30)).alloc (.cells #[.string { data := #[] }, .slice none 0 0, .int .i64 0, .int .i64 0, .bool false, .int .i64 0, .int .i64 0, .int .i64 0, .int .u64 0, .int .u64 0, .int .i64 0, .int .u64 0, .int .i64 0, .slice none 0 0, .int .i64 0, .slice none 0 0, .int .i64 0] 30) := ⟨_, rfl⟩
  have k3 : Kept (fun _ => False) w w3 := by rw [hw3]; exact (((Kept.refl _ _).alloc _).alloc _).alloc _
  have hv : VB W w w3 p q #[.string na, .slice aa al ac, .int .i64 1, .int .i64 te, .bool mo, .int .i64 st, .int .i64 en, .int .i64 0, .int .u64 0, .int .u64 0, .int .i64 0, .int .u64 0, .int .i64 0, .slice none 0 0, .int .i64 0, .slice none 0 0, .int .i64 fl] #[.string { data := #[] }, .slice none 0 0, .int .i64 0, .int .i64 0, .bool false, .int .i64 0, .int .i64 0, .int .i64 0, .int .u64 0, .int .u64 0, .int .i64 0, .int .u64 0, .int .i64 0, .slice none 0 0, .int .i64 0, .slice none 0 0, .int .i64 0] l (numB (zigI z) ++ rest) := by
    refine ⟨h.kept k3, ?_, ?_, ?_, k3.mono (fun _ _ x => x.elim), ⟨h.old.size, by omega⟩⟩
    · rw [hw3, hq]; exact ((Kept.refl (fun _ => False) _).alloc _).same (((Kept.refl (fun _ => False) _).alloc _).same (heap_alloc_new w _) (fun x => x)) (fun x => x)
    · rw [hw3, hq]; exact box_second w _ _ _
    · rw [hw3, hq]
      have h := heap_alloc_new ((w.alloc (.cells #[.pointer (some ⟨p, 0, none⟩)] 70)).alloc (.cells #[.string na, .slice aa al ac, .int .i64 1, .int .i64 te, .bool mo, .int .i64 st, .int .i64 en, .int .i64 0, .int .u64 0, .int .u64 0, .int .i64 0, .int .u64 0, .int .i64 0, .slice none 0 0, .int .i64 0, .slice none 0 0, .int .i64 fl] 30)) (.cells #[.string { data := #[] }, .slice none 0 0, .int .i64 0, .int .i64 0, .bool false, .int .i64 0, .int .i64 0, .int .i64 0, .int .u64 0, .int .u64 0, .int .i64 0, .int .u64 0, .int .i64 0, .slice none 0 0, .int .i64 0, .slice none 0 0, .int .i64 0] 30)
      simpa using h
  have HV0 := Lib.hid hv
  have HW3 := Lib.hid (And.intro hw3 hq)
  have k0 := cell_rowZ 2 _ hv.pb rfl
  have r0 := cell_rowZ 0 _ hv.rb rfl
  obtain ⟨ln, hln⟩ : ∃ n, n = l.length := ⟨_, rfl⟩
  clear hq hw3 k3 hv h hln
  go_enter Tryz.func37, Tryz.ntmps37
  go_upto_region 1 with fail
  rw [← HW3.out.1, ← HW3.out.2]
  go_wp2_with fail
  refine (rdInt_any z HV0.out.rd HLL.out hz.1 hz.2).mono ?_
  rintro e a0 ⟨rfl, h0, j0⟩
  have hb0 := HV0.out.read j0 h0
  have c0_7 := cell_rowZ 7 _ hb0.pb rfl
  have f0_7 := free_of_rowZ 7 hb0.pb
  have HV1 := Lib.hid (hb0.set 7 (.int .i64 z))
  clear h0 j0 hb0 k0 r0
  go_upto_region 15 with fail
  obtain ⟨b0, hbw0⟩ : ∃ b, b = (a0.setCell ⟨q + 1, 7, none⟩ (.int .i64 z)) := ⟨_, rfl⟩
  rw [← hbw0] at HV1 ⊢
  clear hbw0 c0_7 f0_7
  have HPB : Hid (b0.heap[q + 1]? = some (.cells #[.string na, .slice aa al ac, .int .i64 1, .int .i64 te, .bool mo, .int .i64 st, .int .i64 en, .int .i64 z, .int .u64 0, .int .u64 0, .int .i64 0, .int .u64 0, .int .i64 0, .slice none 0 0, .int .i64 0, .slice none 0 0, .int .i64 fl] 30 (0, 0))) := Lib.hid HV1.out.pb
  have HRS := Lib.hid HV1.out.res
  have HF : Hid ((b0.setRow (q + 1 + 1) #[.string na, .slice aa al ac, .int .i64 1, .int .i64 te, .bool mo, .int .i64 st, .int .i64 en, .int .i64 z, .int .u64 0, .int .u64 0, .int .i64 0, .int .u64 0, .int .i64 0, .slice none 0 0, .int .i64 0, .slice none 0 0, .int .i64 fl]).heap[q + 1 + 1]? = some (.cells #[.string na, .slice aa al ac, .int .i64 1, .int .i64 te, .bool mo, .int .i64 st, .int .i64 en, .int .i64 z, .int .u64 0, .int .u64 0, .int .i64 0, .int .u64 0, .int .i64 0, .slice none 0 0, .int .i64 0, .slice none 0 0, .int .i64 fl] 30 (0, 0)) ∧ RL W (b0.setRow (q + 1 + 1) #[.string na, .slice aa al ac, .int .i64 1, .int .i64 te, .bool mo, .int .i64 st, .int .i64 en, .int .i64 z, .int .u64 0, .int .u64 0, .int .i64 0, .int .u64 0, .int .i64 0, .slice none 0 0, .int .i64 0, .slice none 0 0, .int .i64 fl]) p l rest ∧ Kept (fun k => k = p) w (b0.setRow (q + 1 + 1) #[.string na, .slice aa al ac, .int .i64 1, .int .i64 te, .bool mo, .int .i64 st, .int .i64 en, .int .i64 z, .int .u64 0, .int .u64 0, .int .i64 0, .int .u64 0, .int .i64 0, .slice none 0 0, .int .i64 0, .slice none 0 0, .int .i64 fl])) := Lib.hid HV1.out.fin
  go_wp2_with (first
    | (refine wpList_load_row rfl 30 (.tmp 3) rfl (q + 1) rfl 30 _ (0, 0) _ HPB.out Tryz.underlying30 rfl point_info ?_)
    | (refine wpList_store_row rfl 30 (.tmp 4) (.tmp 49) rfl (q + 1 + 1) #[.string na, .slice aa al ac, .int .i64 1, .int .i64 te, .bool mo, .int .i64 st, .int .i64 en, .int .i64 z, .int .u64 0, .int .u64 0, .int .i64 0, .int .u64 0, .int .i64 0, .slice none 0 0, .int .i64 0, .slice none 0 0, .int .i64 fl] rfl rfl 30 _ HRS.out point_info rfl (ptAll _ _ _ _ _ _ _ _ _ _ _ _ _ _ _ _ _ _ _ _ _ _ _) ?_)
    | fail)
  exact bodyPost_ret (results_cell_row Tryz.results37 _ _ (q + 1 + 1) 30 _ (0, 0) _ rfl HF.out.1 Tryz.underlying30 rfl point_info) rfl ⟨rfl, HF.out.2.1, HF.out.2.2⟩
set_option maxRecDepth 100000 in
set_option maxHeartbeats 8000000 in
theorem rdValue2 {W w : World} {p : Nat} {l rest : List Int} (z : Int) (na : ByteArray) (aa : Option Addr) (al ac : Nat) (te : Int) (mo : Bool) (st en fl : Int) (h : RL W w p l (fixB z ++ rest)) (hl : l.length ≤ 100000000000) (hz : 0 ≤ z ∧ z ≤ 18446744073709551615) :
    Calls Tryz.prog 37 #[.agg #[.pointer (some ⟨p, 0, none⟩)], .agg #[.string na, .slice aa al ac, .int .i64 2, .int .i64 te, .bool mo, .int .i64 st, .int .i64 en, .int .i64 0, .int .u64 0, .int .u64 0, .int .i64 0, .int .u64 0, .int .i64 0, .slice none 0 0, .int .i64 0, .slice none 0 0, .int .i64 fl]] w fun e w' => e = .returned (.agg #[.string na, .slice aa al ac, .int .i64 2, .int .i64 te, .bool mo, .int .i64 st, .int .i64 en, .int .i64 0, .int .u64 z, .int .u64 0, .int .i64 0, .int .u64 0, .int .i64 0, .slice none 0 0, .int .i64 0, .slice none 0 0, .int .i64 fl]) ∧ RL W w' p l rest ∧ Kept (fun k => k = p) w w' := by
  have HLL := Lib.hid hl
  obtain ⟨q, hq⟩ : ∃ q, q = w.heap.size := ⟨_, rfl⟩
  obtain ⟨w3, hw3⟩ : ∃ w3, w3 = ((w.alloc (.cells #[.pointer (some ⟨p, 0, none⟩)] 70)).alloc (.cells #[.string na, .slice aa al ac, .int .i64 2, .int .i64 te, .bool mo, .int .i64 st, .int .i64 en, .int .i64 0, .int .u64 0, .int .u64 0, .int .i64 0, .int .u64 0, .int .i64 0, .slice none 0 0, .int .i64 0, .slice none 0 0, .int .i64 fl] 30)).alloc (.cells #[.string { data := #[] }, .slice none 0 0, .int .i64 0, .int .i64 0, .bool false, .int .i64 0, .int .i64 0, .int .i64 0, .int .u64 0, .int .u64 0, .int .i64 0, .int .u64 0, .int .i64 0, .slice none 0 0, .int .i64 0, .slice none 0 0, .int .i64 0] 30) := ⟨_, rfl⟩
  have k3 : Kept (fun _ => False) w w3 := by rw [hw3]; exact (((Kept.refl _ _).alloc _).alloc _).alloc _
  have hv : VB W w w3 p q #[.string na, .slice aa al ac, .int .i64 2, .int .i64 te, .bool mo, .int .i64 st, .int .i64 en, .int .i64 0, .int .u64 0, .int .u64 0, .int .i64 0, .int .u64 0, .int .i64 0, .slice none 0 0, .int .i64 0, .slice none 0 0, .int .i64 fl] #[.string { data := #[] }, .slice none 0 0, .int .i64 0, .int .i64 0, .bool false, .int .i64 0, .int .i64 0, .int .i64 0, .int .u64 0, .int .u64 0, .int .i64 0, .int .u64 0, .int .i64 0, .slice none 0 0, .int .i64 0, .slice none 0 0, .int .i64 0] l (fixB z ++ rest) := by
    refine ⟨h.kept k3, ?_, ?_, ?_, k3.mono (fun _ _ x => x.elim), ⟨h.old.size, by omega⟩⟩
    · rw [hw3, hq]; exact ((Kept.refl (fun _ => False) _).alloc _).same (((Kept.refl (fun _ => False) _).alloc _).same (heap_alloc_new w _) (fun x => x)) (fun x => x)
    · rw [hw3, hq]; exact box_second w _ _ _
    · rw [hw3, hq]
      have h := heap_alloc_new ((w.alloc (.cells #[.pointer (some ⟨p, 0, none⟩)] 70)).alloc (.cells #[.string na, .slice aa al ac, .int .i64 2, .int .i64 te, .bool mo, .int .i64 st, .int .i64 en, .int .i64 0, .int .u64 0, .int .u64 0, .int .i64 0, .int .u64 0, .int .i64 0, .slice none 0 0, .int .i64 0, .slice none 0 0, .int .i64 fl] 30)) (.cells #[.string { data := #[] }, .slice none 0 0, .int .i64 0, .int .i64 0, .bool false, .int .i64 0, .int .i64 0, .int .i64 0, .int .u64 0, .int .u64 0, .int .i64 0, .int .u64 0, .int .i64 0, .slice none 0 0, .int .i64 0, .slice none 0 0, .int .i64 0] 30)
      simpa using h
  have HV0 := Lib.hid hv
  have HW3 := Lib.hid (And.intro hw3 hq)
  have k0 := cell_rowZ 2 _ hv.pb rfl
  have r0 := cell_rowZ 0 _ hv.rb rfl
  obtain ⟨ln, hln⟩ : ∃ n, n = l.length := ⟨_, rfl⟩
  clear hq hw3 k3 hv h hln
  go_enter Tryz.func37, Tryz.ntmps37
  go_upto_region 1 with fail
  rw [← HW3.out.1, ← HW3.out.2]
  go_wp2_with fail
  refine (rdFix_any z HV0.out.rd HLL.out hz.1 hz.2).mono ?_
  rintro e a0 ⟨rfl, h0, j0⟩
  have hb0 := HV0.out.read j0 h0
  have c0_8 := cell_rowZ 8 _ hb0.pb rfl
  have f0_8 := free_of_rowZ 8 hb0.pb
  have HV1 := Lib.hid (hb0.set 8 (.int .u64 z))
  clear h0 j0 hb0 k0 r0
  go_upto_region 15 with fail
  obtain ⟨b0, hbw0⟩ : ∃ b, b = (a0.setCell ⟨q + 1, 8, none⟩ (.int .u64 z)) := ⟨_, rfl⟩
  rw [← hbw0] at HV1 ⊢
  clear hbw0 c0_8 f0_8
  have HPB : Hid (b0.heap[q + 1]? = some (.cells #[.string na, .slice aa al ac, .int .i64 2, .int .i64 te, .bool mo, .int .i64 st, .int .i64 en, .int .i64 0, .int .u64 z, .int .u64 0, .int .i64 0, .int .u64 0, .int .i64 0, .slice none 0 0, .int .i64 0, .slice none 0 0, .int .i64 fl] 30 (0, 0))) := Lib.hid HV1.out.pb
  have HRS := Lib.hid HV1.out.res
  have HF : Hid ((b0.setRow (q + 1 + 1) #[.string na, .slice aa al ac, .int .i64 2, .int .i64 te, .bool mo, .int .i64 st, .int .i64 en, .int .i64 0, .int .u64 z, .int .u64 0, .int .i64 0, .int .u64 0, .int .i64 0, .slice none 0 0, .int .i64 0, .slice none 0 0, .int .i64 fl]).heap[q + 1 + 1]? = some (.cells #[.string na, .slice aa al ac, .int .i64 2, .int .i64 te, .bool mo, .int .i64 st, .int .i64 en, .int .i64 0, .int .u64 z, .int .u64 0, .int .i64 0, .int .u64 0, .int .i64 0, .slice none 0 0, .int .i64 0, .slice none 0 0, .int .i64 fl] 30 (0, 0)) ∧ RL W (b0.setRow (q + 1 + 1) #[.string na, .slice aa al ac, .int .i64 2, .int .i64 te, .bool mo, .int .i64 st, .int .i64 en, .int .i64 0, .int .u64 z, .int .u64 0, .int .i64 0, .int .u64 0, .int .i64 0, .slice none 0 0, .int .i64 0, .slice none 0 0, .int .i64 fl]) p l rest ∧ Kept (fun k => k = p) w (b0.setRow (q + 1 + 1) #[.string na, .slice aa al ac, .int .i64 2, .int .i64 te, .bool mo, .int .i64 st, .int .i64 en, .int .i64 0, .int .u64 z, .int .u64 0, .int .i64 0, .int .u64 0, .int .i64 0, .slice none 0 0, .int .i64 0, .slice none 0 0, .int .i64 fl])) := Lib.hid HV1.out.fin
  go_wp2_with (first
    | (refine wpList_load_row rfl 30 (.tmp 3) rfl (q + 1) rfl 30 _ (0, 0) _ HPB.out Tryz.underlying30 rfl point_info ?_)
    | (refine wpList_store_row rfl 30 (.tmp 4) (.tmp 49) rfl (q + 1 + 1) #[.string na, .slice aa al ac, .int .i64 2, .int .i64 te, .bool mo, .int .i64 st, .int .i64 en, .int .i64 0, .int .u64 z, .int .u64 0, .int .i64 0, .int .u64 0, .int .i64 0, .slice none 0 0, .int .i64 0, .slice none 0 0, .int .i64 fl] rfl rfl 30 _ HRS.out point_info rfl (ptAll _ _ _ _ _ _ _ _ _ _ _ _ _ _ _ _ _ _ _ _ _ _ _) ?_)
    | fail)
  exact bodyPost_ret (results_cell_row Tryz.results37 _ _ (q + 1 + 1) 30 _ (0, 0) _ rfl HF.out.1 Tryz.underlying30 rfl point_info) rfl ⟨rfl, HF.out.2.1, HF.out.2.2⟩
set_option maxRecDepth 100000 in
set_option maxHeartbeats 8000000 in
theorem rdValue3 {W w : World} {p : Nat} {l rest : List Int} (z : Int) (na : ByteArray) (aa : Option Addr) (al ac : Nat) (te : Int) (mo : Bool) (st en fl : Int) (h : RL W w p l (fixB z ++ rest)) (hl : l.length ≤ 100000000000) (hz : 0 ≤ z ∧ z ≤ 18446744073709551615) :
    Calls Tryz.prog 37 #[.agg #[.pointer (some ⟨p, 0, none⟩)], .agg #[.string na, .slice aa al ac, .int .i64 3, .int .i64 te, .bool mo, .int .i64 st, .int .i64 en, .int .i64 0, .int .u64 0, .int .u64 0, .int .i64 0, .int .u64 0, .int .i64 0, .slice none 0 0, .int .i64 0, .slice none 0 0, .int .i64 fl]] w fun e w' => e = .returned (.agg #[.string na, .slice aa al ac, .int .i64 3, .int .i64 te, .bool mo, .int .i64 st, .int .i64 en, .int .i64 0, .int .u64 z, .int .u64 0, .int .i64 0, .int .u64 0, .int .i64 0, .slice none 0 0, .int .i64 0, .slice none 0 0, .int .i64 fl]) ∧ RL W w' p l rest ∧ Kept (fun k => k = p) w w' := by
  have HLL := Lib.hid hl
  obtain ⟨q, hq⟩ : ∃ q, q = w.heap.size := ⟨_, rfl⟩
  obtain ⟨w3, hw3⟩ : ∃ w3, w3 = ((w.alloc (.cells #[.pointer (some ⟨p, 0, none⟩)] 70)).alloc (.cells #[.string na, .slice aa al ac, .int .i64 3, .int .i64 te, .bool mo, .int .i64 st, .int .i64 en, .int .i64 0, .int .u64 0, .int .u64 0, .int .i64 0, .int .u64 0, .int .i64 0, .slice none 0 0, .int .i64 0, .slice none 0 0, .int .i64 fl] 30)).alloc (.cells #[.string { data := #[] }, .slice none 0 0, .int .i64 0, .int .i64 0, .bool false, .int .i64 0, .int .i64 0, .int .i64 0, .int .u64 0, .int .u64 0, .int .i64 0, .int .u64 0, .int .i64 0, .slice none 0 0, .int .i64 0, .slice none 0 0, .int .i64 0] 30) := ⟨_, rfl⟩
  have k3 : Kept (fun _ => False) w w3 := by rw [hw3]; exact (((Kept.refl _ _).alloc _).alloc _).alloc _
  have hv : VB W w w3 p q #[.string na, .slice aa al ac, .int .i64 3, .int .i64 te, .bool mo, .int .i64 st, .int .i64 en, .int .i64 0, .int .u64 0, .int .u64 0, .int .i64 0, .int .u64 0, .int .i64 0, .slice none 0 0, .int .i64 0, .slice none 0 0, .int .i64 fl] #[.string { data := #[] }, .slice none 0 0, .int .i64 0, .int .i64 0, .bool false, .int .i64 0, .int .i64 0, .int .i64 0, .int .u64 0, .int .u64 0, .int .i64 0, .int .u64 0, .int .i64 0, .slice none 0 0, .int .i64 0, .slice none 0 0, .int .i64 0] l (fixB z ++ rest) := by
    refine ⟨h.kept k3, ?_, ?_, ?_, k3.mono (fun _ _ x => x.elim), ⟨h.old.size, by omega⟩⟩
    · rw [hw3, hq]; exact ((Kept.refl (fun _ => False) _).alloc _).same (((Kept.refl (fun _ => False) _).alloc _).same (heap_alloc_new w _) (fun x => x)) (fun x => x)
    · rw [hw3, hq]; exact box_second w _ _ _
    · rw [hw3, hq]
      have h := heap_alloc_new ((w.alloc (.cells #[.pointer (some ⟨p, 0, none⟩)] 70)).alloc (.cells #[.string na, .slice aa al ac, .int .i64 3, .int .i64 te, .bool mo, .int .i64 st, .int .i64 en, .int .i64 0, .int .u64 0, .int .u64 0, .int .i64 0, .int .u64 0, .int .i64 0, .slice none 0 0, .int .i64 0, .slice none 0 0, .int .i64 fl] 30)) (.cells #[.string { data := #[] }, .slice none 0 0, .int .i64 0, .int .i64 0, .bool false, .int .i64 0, .int .i64 0, .int .i64 0, .int .u64 0, .int .u64 0, .int .i64 0, .int .u64 0, .int .i64 0, .slice none 0 0, .int .i64 0, .slice none 0 0, .int .i64 0] 30)
      simpa using h
  have HV0 := Lib.hid hv
  have HW3 := Lib.hid (And.intro hw3 hq)
  have k0 := cell_rowZ 2 _ hv.pb rfl
  have r0 := cell_rowZ 0 _ hv.rb rfl
  obtain ⟨ln, hln⟩ : ∃ n, n = l.length := ⟨_, rfl⟩
  clear hq hw3 k3 hv h hln
  go_enter Tryz.func37, Tryz.ntmps37
  go_upto_region 1 with fail
  rw [← HW3.out.1, ← HW3.out.2]
  go_wp2_with fail
  refine (rdFix_any z HV0.out.rd HLL.out hz.1 hz.2).mono ?_
  rintro e a0 ⟨rfl, h0, j0⟩
  have hb0 := HV0.out.read j0 h0
  have c0_8 := cell_rowZ 8 _ hb0.pb rfl
  have f0_8 := free_of_rowZ 8 hb0.pb
  have HV1 := Lib.hid (hb0.set 8 (.int .u64 z))
  clear h0 j0 hb0 k0 r0
  go_upto_region 15 with fail
  obtain ⟨b0, hbw0⟩ : ∃ b, b = (a0.setCell ⟨q + 1, 8, none⟩ (.int .u64 z)) := ⟨_, rfl⟩
  rw [← hbw0] at HV1 ⊢
  clear hbw0 c0_8 f0_8
  have HPB : Hid (b0.heap[q + 1]? = some (.cells #[.string na, .slice aa al ac, .int .i64 3, .int .i64 te, .bool mo, .int .i64 st, .int .i64 en, .int .i64 0, .int .u64 z, .int .u64 0, .int .i64 0, .int .u64 0, .int .i64 0, .slice none 0 0, .int .i64 0, .slice none 0 0, .int .i64 fl] 30 (0, 0))) := Lib.hid HV1.out.pb
  have HRS := Lib.hid HV1.out.res
  have HF : Hid ((b0.setRow (q + 1 + 1) #[.string na, .slice aa al ac, .int .i64 3, .int .i64 te, .bool mo, .int .i64 st, .int .i64 en, .int .i64 0, .int .u64 z, .int .u64 0, .int .i64 0, .int .u64 0, .int .i64 0, .slice none 0 0, .int .i64 0, .slice none 0 0, .int .i64 fl]).heap[q + 1 + 1]? = some (.cells #[.string na, .slice aa al ac, .int .i64 3, .int .i64 te, .bool mo, .int .i64 st, .int .i64 en, .int .i64 0, .int .u64 z, .int .u64 0, .int .i64 0, .int .u64 0, .int .i64 0, .slice none 0 0, .int .i64 0, .slice none 0 0, .int .i64 fl] 30 (0, 0)) ∧ RL W (b0.setRow (q + 1 + 1) #[.string na, .slice aa al ac, .int .i64 3, .int .i64 te, .bool mo, .int .i64 st, .int .i64 en, .int .i64 0, .int .u64 z, .int .u64 0, .int .i64 0, .int .u64 0, .int .i64 0, .slice none 0 0, .int .i64 0, .slice none 0 0, .int .i64 fl]) p l rest ∧ Kept (fun k => k = p) w (b0.setRow (q + 1 + 1) #[.string na, .slice aa al ac, .int .i64 3, .int .i64 te, .bool mo, .int .i64 st, .int .i64 en, .int .i64 0, .int .u64 z, .int .u64 0, .int .i64 0, .int .u64 0, .int .i64 0, .slice none 0 0, .int .i64 0, .slice none 0 0, .int .i64 fl])) := Lib.hid HV1.out.fin
  go_wp2_with (first
    | (refine wpList_load_row rfl 30 (.tmp 3) rfl (q + 1) rfl 30 _ (0, 0) _ HPB.out Tryz.underlying30 rfl point_info ?_)
    | (refine wpList_store_row rfl 30 (.tmp 4) (.tmp 49) rfl (q + 1 + 1) #[.string na, .slice aa al ac, .int .i64 3, .int .i64 te, .bool mo, .int .i64 st, .int .i64 en, .int .i64 0, .int .u64 z, .int .u64 0, .int .i64 0, .int .u64 0, .int .i64 0, .slice none 0 0, .int .i64 0, .slice none 0 0, .int .i64 fl] rfl rfl 30 _ HRS.out point_info rfl (ptAll _ _ _ _ _ _ _ _ _ _ _ _ _ _ _ _ _ _ _ _ _ _ _) ?_)
    | fail)
  exact bodyPost_ret (results_cell_row Tryz.results37 _ _ (q + 1 + 1) 30 _ (0, 0) _ rfl HF.out.1 Tryz.underlying30 rfl point_info) rfl ⟨rfl, HF.out.2.1, HF.out.2.2⟩
set_option maxRecDepth 100000 in
set_option maxHeartbeats 8000000 in
theorem rdValue5 {W w : World} {p : Nat} {l rest : List Int} (z y : Int) (na : ByteArray) (aa : Option Addr) (al ac : Nat) (te : Int) (mo : Bool) (st en fl : Int) (h : RL W w p l ((fixB z ++ fixB y) ++ rest)) (hl : l.length ≤ 100000000000) (hz : 0 ≤ z ∧ z ≤ 18446744073709551615) (hy : 0 ≤ y ∧ y ≤ 18446744073709551615) :
    Calls Tryz.prog 37 #[.agg #[.pointer (some ⟨p, 0, none⟩)], .agg #[.string na, .slice aa al ac, .int .i64 5, .int .i64 te, .bool mo, .int .i64 st, .int .i64 en, .int .i64 0, .int .u64 0, .int .u64 0, .int .i64 0, .int .u64 0, .int .i64 0, .slice none 0 0, .int .i64 0, .slice none 0 0, .int .i64 fl]] w fun e w' => e = .returned (.agg #[.string na, .slice aa al ac, .int .i64 5, .int .i64 te, .bool mo, .int .i64 st, .int .i64 en, .int .i64 0, .int .u64 z, .int .u64 y, .int .i64 0, .int .u64 0, .int .i64 0, .slice none 0 0, .int .i64 0, .slice none 0 0, .int .i64 fl]) ∧ RL W w' p l rest ∧ Kept (fun k => k = p) w w' := by
  have HLL := Lib.hid hl
  obtain ⟨q, hq⟩ : ∃ q, q = w.heap.size := ⟨_, rfl⟩
  obtain ⟨w3, hw3⟩ : ∃ w3, w3 = ((w.alloc (.cells #[.pointer (some ⟨p, 0, none⟩)] 70)).alloc (.cells #[.string na, .slice aa al ac, .int .i64 5, .int .i64 te, .bool mo, .int .i64 st, .int .i64 en, .int .i64 0, .int .u64 0, .int .u64 0, .int .i64 0, .int .u64 0, .int .i64 0, .slice none 0 0, .int .i64 0, .slice none 0 0, .int .i64 fl] 30)).alloc (.cells #[.string { data := #[] }, .slice none 0 0, .int .i64 0, .int .i64 0, .bool false, .int .i64 0, .int .i64 0, .int .i64 0, .int .u64 0, .int .u64 0, .int .i64 0, .int .u64 0, .int .i64 0, .slice none 0 0, .int .i64 0, .slice none 0 0, .int .i64 0] 30) := ⟨_, rfl⟩
  have k3 : Kept (fun _ => False) w w3 := by rw [hw3]; exact (((Kept.refl _ _).alloc _).alloc _).alloc _
  have hv : VB W w w3 p q #[.string na, .slice aa al ac, .int .i64 5, .int .i64 te, .bool mo, .int .i64 st, .int .i64 en, .int .i64 0, .int .u64 0, .int .u64 0, .int .i64 0, .int .u64 0, .int .i64 0, .slice none 0 0, .int .i64 0, .slice none 0 0, .int .i64 fl] #[.string { data := #[] }, .slice none 0 0, .int .i64 0, .int .i64 0, .bool false, .int .i64 0, .int .i64 0, .int .i64 0, .int .u64 0, .int .u64 0, .int .i64 0, .int .u64 0, .int .i64 0, .slice none 0 0, .int .i64 0, .slice none 0 0, .int .i64 0] l ((fixB z ++ fixB y) ++ rest) := by
    refine ⟨h.kept k3, ?_, ?_, ?_, k3.mono (fun _ _ x => x.elim), ⟨h.old.size, by omega⟩⟩
    · rw [hw3, hq]; exact ((Kept.refl (fun _ => False) _).alloc _).same (((Kept.refl (fun _ => False) _).alloc _).same (heap_alloc_new w _) (fun x => x)) (fun x => x)
    · rw [hw3, hq]; exact box_second w _ _ _
    · rw [hw3, hq]
      have h := heap_alloc_new ((w.alloc (.cells #[.pointer (some ⟨p, 0, none⟩)] 70)).alloc (.cells #[.string na, .slice aa al ac, .int .i64 5, .int .i64 te, .bool mo, .int .i64 st, .int .i64 en, .int .i64 0, .int .u64 0, .int .u64 0, .int .i64 0, .int .u64 0, .int .i64 0, .slice none 0 0, .int .i64 0, .slice none 0 0, .int .i64 fl] 30)) (.cells #[.string { data := #[] }, .slice none 0 0, .int .i64 0, .int .i64 0, .bool false, .int .i64 0, .int .i64 0, .int .i64 0, .int .u64 0, .int .u64 0, .int .i64 0, .int .u64 0, .int .i64 0, .slice none 0 0, .int .i64 0, .slice none 0 0, .int .i64 0] 30)
      simpa using h
  have HV0 := Lib.hid hv
  have HW3 := Lib.hid (And.intro hw3 hq)
  have k0 := cell_rowZ 2 _ hv.pb rfl
  have r0 := cell_rowZ 0 _ hv.rb rfl
  obtain ⟨ln, hln⟩ : ∃ n, n = l.length := ⟨_, rfl⟩
  clear hq hw3 k3 hv h hln
  go_enter Tryz.func37, Tryz.ntmps37
  go_upto_region 1 with fail
  rw [← HW3.out.1, ← HW3.out.2]
  go_wp2_with fail
  refine (rdFix_any z (by have := HV0.out.rd; rwa [List.append_assoc] at this) HLL.out hz.1 hz.2).mono ?_
  rintro e a0 ⟨rfl, h0, j0⟩
  have hb0 := HV0.out.read j0 h0
  have c0_8 := cell_rowZ 8 _ hb0.pb rfl
  have f0_8 := free_of_rowZ 8 hb0.pb
  have HV1 := Lib.hid (hb0.set 8 (.int .u64 z))
  clear h0 j0 hb0 k0 r0
  go_upto_region 9 with fail
  obtain ⟨b0, hbw0⟩ : ∃ b, b = (a0.setCell ⟨q + 1, 8, none⟩ (.int .u64 z)) := ⟨_, rfl⟩
  rw [← hbw0] at HV1 ⊢
  have r1 := cell_rowZ 0 _ HV1.out.rb rfl
  clear hbw0 c0_8 f0_8
  go_wp2_with fail
  refine (rdFix_any y HV1.out.rd HLL.out hy.1 hy.2).mono ?_
  rintro e a1 ⟨rfl, h1, j1⟩
  have hb1 := HV1.out.read j1 h1
  have c1_9 := cell_rowZ 9 _ hb1.pb rfl
  have f1_9 := free_of_rowZ 9 hb1.pb
  have HV2 := Lib.hid (hb1.set 9 (.int .u64 y))
  clear h1 j1 hb1 r1
  go_upto_region 15 with fail
  obtain ⟨b1, hbw1⟩ : ∃ b, b = (a1.setCell ⟨q + 1, 9, none⟩ (.int .u64 y)) := ⟨_, rfl⟩
  rw [← hbw1] at HV2 ⊢
  clear hbw1 c1_9 f1_9
  have HPB : Hid (b1.heap[q + 1]? = some (.cells #[.string na, .slice aa al ac, .int .i64 5, .int .i64 te, .bool mo, .int .i64 st, .int .i64 en, .int .i64 0, .int .u64 z, .int .u64 y, .int .i64 0, .int .u64 0, .int .i64 0, .slice none 0 0, .int .i64 0, .slice none 0 0, .int .i64 fl] 30 (0, 0))) := Lib.hid HV2.out.pb
  have HRS := Lib.hid HV2.out.res
  have HF : Hid ((b1.setRow (q + 1 + 1) #[.string na, .slice aa al ac, .int .i64 5, .int .i64 te, .bool mo, .int .i64 st, .int .i64 en, .int .i64 0, .int .u64 z, .int .u64 y, .int .i64 0, .int .u64 0, .int .i64 0, .slice none 0 0, .int .i64 0, .slice none 0 0, .int .i64 fl]).heap[q + 1 + 1]? = some (.cells #[.string na, .slice aa al ac, .int .i64 5, .int .i64 te, .bool mo, .int .i64 st, .int .i64 en, .int .i64 0, .int .u64 z, .int .u64 y, .int .i64 0, .int .u64 0, .int .i64 0, .slice none 0 0, .int .i64 0, .slice none 0 0, .int .i64 fl] 30 (0, 0)) ∧ RL W (b1.setRow (q + 1 + 1) #[.string na, .slice aa al ac, .int .i64 5, .int .i64 te, .bool mo, .int .i64 st, .int .i64 en, .int .i64 0, .int .u64 z, .int .u64 y, .int .i64 0, .int .u64 0, .int .i64 0, .slice none 0 0, .int .i64 0, .slice none 0 0, .int .i64 fl]) p l rest ∧ Kept (fun k => k = p) w (b1.setRow (q + 1 + 1) #[.string na, .slice aa al ac, .int .i64 5, .int .i64 te, .bool mo, .int .i64 st, .int .i64 en, .int .i64 0, .int .u64 z, .int .u64 y, .int .i64 0, .int .u64 0, .int .i64 0, .slice none 0 0, .int .i64 0, .slice none 0 0, .int .i64 fl])) := Lib.hid HV2.out.fin
  go_wp2_with (first
    | (refine wpList_load_row rfl 30 (.tmp 3) rfl (q + 1) rfl 30 _ (0, 0) _ HPB.out Tryz.underlying30 rfl point_info ?_)
    | (refine wpList_store_row rfl 30 (.tmp 4) (.tmp 49) rfl (q + 1 + 1) #[.string na, .slice aa al ac, .int .i64 5, .int .i64 te, .bool mo, .int .i64 st, .int .i64 en, .int .i64 0, .int .u64 z, .int .u64 y, .int .i64 0, .int .u64 0, .int .i64 0, .slice none 0 0, .int .i64 0, .slice none 0 0, .int .i64 fl] rfl rfl 30 _ HRS.out point_info rfl (ptAll _ _ _ _ _ _ _ _ _ _ _ _ _ _ _ _ _ _ _ _ _ _ _) ?_)
    | fail)
  exact bodyPost_ret (results_cell_row Tryz.results37 _ _ (q + 1 + 1) 30 _ (0, 0) _ rfl HF.out.1 Tryz.underlying30 rfl point_info) rfl ⟨rfl, HF.out.2.1, HF.out.2.2⟩
set_option maxRecDepth 100000 in
set_option maxHeartbeats 8000000 in
theorem rdValue4 {W w : World} {p : Nat} {l rest : List Int} (sc ze po no : Int) (L M : List Nat) (na : ByteArray) (aa : Option Addr) (al ac : Nat) (te : Int) (mo : Bool) (st en fl : Int) (h : RL W w p l ((numB (zigI sc) ++ (numB ze ++ (sideB po L ++ sideB no M))) ++ rest)) (hl : l.length ≤ 100000000000) (hhy : ((-4503599627370496 ≤ sc ∧ sc ≤ 4503599627370496) ∧ (0 ≤ ze ∧ ze ≤ 18446744073709551615)) ∧ ((L.length ≤ 160 ∧ (-4503599627370496 ≤ po ∧ po ≤ 4503599627370496) ∧ (L.length = 0 → po = 0) ∧ ∀ x ∈ L, x < 18446744073709551616) ∧ (M.length ≤ 160 ∧ (-4503599627370496 ≤ no ∧ no ≤ 4503599627370496) ∧ (M.length = 0 → no = 0) ∧ ∀ x ∈ M, x < 18446744073709551616))) :
    Calls Tryz.prog 37 #[.agg #[.pointer (some ⟨p, 0, none⟩)], .agg #[.string na, .slice aa al ac, .int .i64 4, .int .i64 te, .bool mo, .int .i64 st, .int .i64 en, .int .i64 0, .int .u64 0, .int .u64 0, .int .i64 0, .int .u64 0, .int .i64 0, .slice none 0 0, .int .i64 0, .slice none 0 0, .int .i64 fl]] w fun e w' => ∃ va vc ua uc, e = .returned (.agg #[.string na, .slice aa al ac, .int .i64 4, .int .i64 te, .bool mo, .int .i64 st, .int .i64 en, .int .i64 0, .int .u64 0, .int .u64 0, .int .i64 sc, .int .u64 ze, .int .i64 po, .slice va L.length vc, .int .i64 no, .slice ua M.length uc, .int .i64 fl]) ∧ w'.ownsRow w.heap.size 23 1 (.slice va L.length vc) L.length (uvals L) ∧ w'.ownsRow w.heap.size 23 1 (.slice ua M.length uc) M.length (uvals M) ∧ RL W w' p l rest ∧ Kept (fun k => k = p) w w' := by
  have HLL := Lib.hid hl
  obtain ⟨q, hq⟩ : ∃ q, q = w.heap.size := ⟨_, rfl⟩
  obtain ⟨w3, hw3⟩ : ∃ w3, w3 = ((w.alloc (.cells #[.pointer (some ⟨p, 0, none⟩)] 70)).alloc (.cells #[.string na, .slice aa al ac, .int .i64 4, .int .i64 te, .bool mo, .int .i64 st, .int .i64 en, .int .i64 0, .int .u64 0, .int .u64 0, .int .i64 0, .int .u64 0, .int .i64 0, .slice none 0 0, .int .i64 0, .slice none 0 0, .int .i64 fl] 30)).alloc (.cells #[.string { data := #[] }, .slice none 0 0, .int .i64 0, .int .i64 0, .bool false, .int .i64 0, .int .i64 0, .int .i64 0, .int .u64 0, .int .u64 0, .int .i64 0, .int .u64 0, .int .i64 0, .slice none 0 0, .int .i64 0, .slice none 0 0, .int .i64 0] 30) := ⟨_, rfl⟩
  have k3 : Kept (fun _ => False) w w3 := by rw [hw3]; exact (((Kept.refl _ _).alloc _).alloc _).alloc _
  have hv : VB W w w3 p q #[.string na, .slice aa al ac, .int .i64 4, .int .i64 te, .bool mo, .int .i64 st, .int .i64 en, .int .i64 0, .int .u64 0, .int .u64 0, .int .i64 0, .int .u64 0, .int .i64 0, .slice none 0 0, .int .i64 0, .slice none 0 0, .int .i64 fl] #[.string { data := #[] }, .slice none 0 0, .int .i64 0, .int .i64 0, .bool false, .int .i64 0, .int .i64 0, .int .i64 0, .int .u64 0, .int .u64 0, .int .i64 0, .int .u64 0, .int .i64 0, .slice none 0 0, .int .i64 0, .slice none 0 0, .int .i64 0] l ((numB (zigI sc) ++ (numB ze ++ (sideB po L ++ sideB no M))) ++ rest) := by
    refine ⟨h.kept k3, ?_, ?_, ?_, k3.mono (fun _ _ x => x.elim), ⟨h.old.size, by omega⟩⟩
    · rw [hw3, hq]; exact ((Kept.refl (fun _ => False) _).alloc _).same (((Kept.refl (fun _ => False) _).alloc _).same (heap_alloc_new w _) (fun x => x)) (fun x => x)
    · rw [hw3, hq]; exact box_second w _ _ _
    · rw [hw3, hq]
      have h := heap_alloc_new ((w.alloc (.cells #[.pointer (some ⟨p, 0, none⟩)] 70)).alloc (.cells #[.string na, .slice aa al ac, .int .i64 4, .int .i64 te, .bool mo, .int .i64 st, .int .i64 en, .int .i64 0, .int .u64 0, .int .u64 0, .int .i64 0, .int .u64 0, .int .i64 0, .slice none 0 0, .int .i64 0, .slice none 0 0, .int .i64 fl] 30)) (.cells #[.string { data := #[] }, .slice none 0 0, .int .i64 0, .int .i64 0, .bool false, .int .i64 0, .int .i64 0, .int .i64 0, .int .u64 0, .int .u64 0, .int .i64 0, .int .u64 0, .int .i64 0, .slice none 0 0, .int .i64 0, .slice none 0 0, .int .i64 0] 30)
      simpa using h
  have HHY := Lib.hid hhy
  have HV0 := Lib.hid hv
  have HW3 := Lib.hid (And.intro hw3 hq)
  have k0 := cell_rowZ 2 _ hv.pb rfl
  have r0 := cell_rowZ 0 _ hv.rb rfl
  obtain ⟨ln, hln⟩ : ∃ n, n = l.length := ⟨_, rfl⟩
  clear hq hw3 k3 hv h hln
  go_enter Tryz.func37, Tryz.ntmps37
  go_upto_region 1 with fail
  rw [← HW3.out.1, ← HW3.out.2]
  go_wp2_with fail
  refine (rdSigned_any sc (by have := HV0.out.rd; rwa [List.append_assoc] at this) HLL.out HHY.out.1.1.1 HHY.out.1.1.2).mono ?_
  rintro e a0 ⟨rfl, h0, j0⟩
  have hb0 := HV0.out.read j0 h0
  have c0_10 := cell_rowZ 10 _ hb0.pb rfl
  have f0_10 := free_of_rowZ 10 hb0.pb
  have HV1 := Lib.hid (hb0.set 10 (.int .i64 sc))
  clear h0 j0 hb0 k0 r0
  go_upto_region 12 with fail
  obtain ⟨b0, hbw0⟩ : ∃ b, b = (a0.setCell ⟨q + 1, 10, none⟩ (.int .i64 sc)) := ⟨_, rfl⟩
  rw [← hbw0] at HV1 ⊢
  have r1 := cell_rowZ 0 _ HV1.out.rb rfl
  clear hbw0 c0_10 f0_10
  go_wp2_with fail
  refine (rdNum_any ze (by have := HV1.out.rd; rwa [List.append_assoc] at this) HLL.out HHY.out.1.2.1 HHY.out.1.2.2).mono ?_
  rintro e a1 ⟨rfl, h1, j1⟩
  have hb1 := HV1.out.read j1 h1
  have c1_11 := cell_rowZ 11 _ hb1.pb rfl
  have f1_11 := free_of_rowZ 11 hb1.pb
  have HV2 := Lib.hid (hb1.set 11 (.int .u64 ze))
  clear h1 j1 hb1 r1
  go_upto_region 13 with fail
  obtain ⟨b1, hbw1⟩ : ∃ b, b = (a1.setCell ⟨q + 1, 11, none⟩ (.int .u64 ze)) := ⟨_, rfl⟩
  rw [← hbw1] at HV2 ⊢
  have r2 := cell_rowZ 0 _ HV2.out.rb rfl
  clear hbw1 c1_11 f1_11
  go_wp2_with fail
  refine (rdSide_any po L (by have := HV2.out.rd; rwa [List.append_assoc] at this) HLL.out HHY.out.2.1.1 HHY.out.2.1.2.1 HHY.out.2.1.2.2.1 HHY.out.2.1.2.2.2).mono ?_
  rintro e a2 ⟨v2, rfl, o2, h2, j2⟩
  obtain ⟨va, vc, rfl⟩ := ownsRow_slice o2
  have o2 := own_lower o2 HV2.out.kp.size
  have hb2 := HV2.out.read j2 h2
  have OL0 := Lib.hid o2
  have c2_12 := cell_rowZ 12 _ hb2.pb rfl
  have f2_12 := free_of_rowZ 12 hb2.pb
  have c2_13 := cell_rowZ 13 _ hb2.pb rfl
  have f2_13 := free_of_rowZ 13 hb2.pb
  have OLs2_0 := Lib.hid (own_set w _ (q + 1) 12 (.int .i64 po) OL0.out hb2.pb)
  have OLs2_1 := Lib.hid (own_set w _ (q + 1) 13 (.slice va L.length vc) OLs2_0.out (hb2.set 12 (.int .i64 po)).pb)
  have HV3 := Lib.hid ((hb2.set 12 (.int .i64 po)).set 13 (.slice va L.length vc))
  clear h2 j2 hb2 o2 r2
  go_upto_region 14 with fail
  obtain ⟨b2, hbw2⟩ : ∃ b, b = ((a2.setCell ⟨q + 1, 12, none⟩ (.int .i64 po)).setCell ⟨q + 1, 13, none⟩ (.slice va L.length vc)) := ⟨_, rfl⟩
  rw [← hbw2] at HV3 OLs2_1 ⊢
  have r3 := cell_rowZ 0 _ HV3.out.rb rfl
  clear hbw2 c2_12 f2_12 c2_13 f2_13
  go_wp2_with fail
  refine (rdSide_any no M HV3.out.rd HLL.out HHY.out.2.2.1 HHY.out.2.2.2.1 HHY.out.2.2.2.2.1 HHY.out.2.2.2.2.2).mono ?_
  rintro e a3 ⟨v3, rfl, o3, h3, j3⟩
  obtain ⟨ua, uc, rfl⟩ := ownsRow_slice o3
  have o3 := own_lower o3 HV3.out.kp.size
  have hb3 := HV3.out.read j3 h3
  have OLr3 := Lib.hid (own_read OLs2_1.out HV3.out.rd j3)
  have OM0 := Lib.hid o3
  have c3_14 := cell_rowZ 14 _ hb3.pb rfl
  have f3_14 := free_of_rowZ 14 hb3.pb
  have c3_15 := cell_rowZ 15 _ hb3.pb rfl
  have f3_15 := free_of_rowZ 15 hb3.pb
  have OLs3_0 := Lib.hid (own_set w _ (q + 1) 14 (.int .i64 no) OLr3.out hb3.pb)
  have OMs3_0 := Lib.hid (own_set w _ (q + 1) 14 (.int .i64 no) OM0.out hb3.pb)
  have OLs3_1 := Lib.hid (own_set w _ (q + 1) 15 (.slice ua M.length uc) OLs3_0.out (hb3.set 14 (.int .i64 no)).pb)
  have OMs3_1 := Lib.hid (own_set w _ (q + 1) 15 (.slice ua M.length uc) OMs3_0.out (hb3.set 14 (.int .i64 no)).pb)
  have HV4 := Lib.hid ((hb3.set 14 (.int .i64 no)).set 15 (.slice ua M.length uc))
  clear h3 j3 hb3 o3 r3
  go_upto_region 15 with fail
  obtain ⟨b3, hbw3⟩ : ∃ b, b = ((a3.setCell ⟨q + 1, 14, none⟩ (.int .i64 no)).setCell ⟨q + 1, 15, none⟩ (.slice ua M.length uc)) := ⟨_, rfl⟩
  rw [← hbw3] at HV4 OLs3_1 OMs3_1 ⊢
  clear hbw3 c3_14 f3_14 c3_15 f3_15
  have HPB : Hid (b3.heap[q + 1]? = some (.cells #[.string na, .slice aa al ac, .int .i64 4, .int .i64 te, .bool mo, .int .i64 st, .int .i64 en, .int .i64 0, .int .u64 0, .int .u64 0, .int .i64 sc, .int .u64 ze, .int .i64 po, .slice va L.length vc, .int .i64 no, .slice ua M.length uc, .int .i64 fl] 30 (0, 0))) := Lib.hid HV4.out.pb
  have HRS := Lib.hid HV4.out.res
  have HF : Hid ((b3.setRow (q + 1 + 1) #[.string na, .slice aa al ac, .int .i64 4, .int .i64 te, .bool mo, .int .i64 st, .int .i64 en, .int .i64 0, .int .u64 0, .int .u64 0, .int .i64 sc, .int .u64 ze, .int .i64 po, .slice va L.length vc, .int .i64 no, .slice ua M.length uc, .int .i64 fl]).heap[q + 1 + 1]? = some (.cells #[.string na, .slice aa al ac, .int .i64 4, .int .i64 te, .bool mo, .int .i64 st, .int .i64 en, .int .i64 0, .int .u64 0, .int .u64 0, .int .i64 sc, .int .u64 ze, .int .i64 po, .slice va L.length vc, .int .i64 no, .slice ua M.length uc, .int .i64 fl] 30 (0, 0)) ∧ RL W (b3.setRow (q + 1 + 1) #[.string na, .slice aa al ac, .int .i64 4, .int .i64 te, .bool mo, .int .i64 st, .int .i64 en, .int .i64 0, .int .u64 0, .int .u64 0, .int .i64 sc, .int .u64 ze, .int .i64 po, .slice va L.length vc, .int .i64 no, .slice ua M.length uc, .int .i64 fl]) p l rest ∧ Kept (fun k => k = p) w (b3.setRow (q + 1 + 1) #[.string na, .slice aa al ac, .int .i64 4, .int .i64 te, .bool mo, .int .i64 st, .int .i64 en, .int .i64 0, .int .u64 0, .int .u64 0, .int .i64 sc, .int .u64 ze, .int .i64 po, .slice va L.length vc, .int .i64 no, .slice ua M.length uc, .int .i64 fl])) := Lib.hid HV4.out.fin
  have OLf := Lib.hid (own_row w b3 (q + 1 + 1) #[.string na, .slice aa al ac, .int .i64 4, .int .i64 te, .bool mo, .int .i64 st, .int .i64 en, .int .i64 0, .int .u64 0, .int .u64 0, .int .i64 sc, .int .u64 ze, .int .i64 po, .slice va L.length vc, .int .i64 no, .slice ua M.length uc, .int .i64 fl] _ OLs3_1.out HV4.out.res)
  have OMf := Lib.hid (own_row w b3 (q + 1 + 1) #[.string na, .slice aa al ac, .int .i64 4, .int .i64 te, .bool mo, .int .i64 st, .int .i64 en, .int .i64 0, .int .u64 0, .int .u64 0, .int .i64 sc, .int .u64 ze, .int .i64 po, .slice va L.length vc, .int .i64 no, .slice ua M.length uc, .int .i64 fl] _ OMs3_1.out HV4.out.res)
  go_wp2_with (first
    | (refine wpList_load_row rfl 30 (.tmp 3) rfl (q + 1) rfl 30 _ (0, 0) _ HPB.out Tryz.underlying30 rfl point_info ?_)
    | (refine wpList_store_row rfl 30 (.tmp 4) (.tmp 49) rfl (q + 1 + 1) #[.string na, .slice aa al ac, .int .i64 4, .int .i64 te, .bool mo, .int .i64 st, .int .i64 en, .int .i64 0, .int .u64 0, .int .u64 0, .int .i64 sc, .int .u64 ze, .int .i64 po, .slice va L.length vc, .int .i64 no, .slice ua M.length uc, .int .i64 fl] rfl rfl 30 _ HRS.out point_info rfl (ptAll _ _ _ _ _ _ _ _ _ _ _ _ _ _ _ _ _ _ _ _ _ _ _) ?_)
    | fail)
  exact bodyPost_ret (results_cell_row Tryz.results37 _ _ (q + 1 + 1) 30 _ (0, 0) _ rfl HF.out.1 Tryz.underlying30 rfl point_info) rfl ⟨_, _, _, _, rfl, OLf.out, OMf.out, HF.out.2.1, HF.out.2.2⟩
end Go.Proofs.YteflepcmblacaaaGreatDoor
