/- Texts put together: G1, GR, SX. -/
import Derived.Test.YtficodklidaheaaDoorZz1
import Derived.WideShapes
import Derived.Lib.Hide
import Derived.Laws.Rows
import Derived.Deep.RegionHeld3
import Derived.Deep.RegionWith
import Derived.Deep.DrawnRows
import Derived.Deep.QuietTactic
import Derived.BigQuiet
import Derived.Outline
import Derived.Deep.DeepCutAuto
import Derived.Deep.LoopGhost
import Derived.Deep.RegionLaw
import Derived.Deep.CutBlock
import Derived.StillTailTactics
import Derived.Deep.WholeRow
import Derived.Test.YtficodklidaheaaDoorProg
/- General words and laws of memory: a slice read as values; a row that was made behind a world; slices cut; slices of integers that came in. It imports nothing of a translation. -/
namespace Go.Proofs.YtficodklidaheaaDoor
open Go.RowKit

/-- The value v is a slice whose elements, of one cell each, read as xs. -/
structure SlAt (w : World) (v : Value) (xs : List Value) : Prop where
  val : ∃ ao c, v = .slice ao xs.length c ∧ (ao = none → xs = []) ∧ ∀ a, ao = some a → ∀ j u, xs[j]? = some u → w.cell? (a.add j) = some u

theorem addr_add0 (g j : Nat) : (⟨g, 0, none⟩ : Addr).add j = ⟨g, j, none⟩ := by unfold Addr.add; split <;> simp_all
theorem add_block (a : Addr) (j : Nat) : (a.add j).block = a.block := by unfold Addr.add; split <;> rfl

theorem SlAt.src {P : Program} {w : World} {v : Value} {xs : List Value} (h : SlAt w v xs) {t e : TypeId} (hk : P.underlying t = some (.slice e)) (h1 : ∀ u ∈ xs, u.oneCell' = true) : Src P 1 t v xs.length xs w := by
  obtain ⟨ao, c, rfl, hn, hc⟩ := h.val
  cases ao with
  | none =>
    obtain rfl := hn rfl
    exact Src.ofNil _ hk _
  | some a => exact Src.ofSlice _ hk _ xs.length c xs (by omega) (hc a rfl) h1
theorem SlAt.kept {S : Nat → Prop} {w w' : World} {v : Value} {xs : List Value} (h : SlAt w v xs) (hk : Kept S w w') (hn : ∀ k, v.ownBlock = some k → ¬ S k) : SlAt w' v xs := by
  obtain ⟨ao, c, rfl, hz, hc⟩ := h.val
  refine ⟨ao, c, rfl, hz, fun a ha j u hu => ?_⟩
  refine hk.cell (hc a ha j u hu) ?_
  subst ha
  rw [add_block]
  exact hn _ rfl
theorem SlAt.ofOwn {w : World} {base : Nat} {e : TypeId} {v : Value} {n : Nat} {xs : List Value} (ho : w.ownsRow base e 1 v n xs) : SlAt w v xs := by
  obtain ⟨a, cap, rfl⟩ := ownsRow_slice ho
  have hl : xs.length = n := by simpa using ho.1
  subst hl
  refine ⟨a, cap, rfl, ?_, ?_⟩
  · rintro rfl
    rcases ho.2 with ⟨_, h⟩ | ⟨g, cap, cur, e, _⟩
    · exact List.eq_nil_of_length_eq_zero h
    · cases e
  · rintro a rfl j u hu
    rcases ho.2 with ⟨e, _⟩ | ⟨g, cap', cur, e, _⟩
    · cases e
    · injection e with e1 e2 e3
      injection e1 with e1
      subst e1
      exact ho.cells rfl j u hu

theorem SlAt.addr {w : World} {v : Value} {xs : List Value} (h : SlAt w v xs) (hp : 0 < xs.length) :
    ∃ g off c, v = .slice (some ⟨g, off, none⟩) xs.length c ∧ ∀ j u, xs[j]? = some u → w.cell? ⟨g, off + j, none⟩ = some u := by
  obtain ⟨ao, c, rfl, hn, hc⟩ := h.val
  cases ao with
  | none => rw [hn rfl] at hp; exact absurd hp (by simp)
  | some a =>
    obtain ⟨b, off, spot⟩ := a
    have h0 := hc _ rfl 0 xs[0] (List.getElem?_eq_getElem hp)
    have hspot : spot = Option.none := by simpa [Addr.add] using World.cell?_spot h0
    subst hspot
    exact ⟨b, off, c, rfl, fun j u hu => by rw [← Go.WideShapes.add_plain]; exact hc _ rfl j u hu⟩

theorem SlAt.elem {w : World} {ao : Option Addr} {n c : Nat} {xs : List Value} (h : SlAt w (.slice ao n c) xs) {i : Nat} {u : Value} (hu : xs[i]? = some u) : ∃ g off, ao = some ⟨g, off, none⟩ ∧ w.cell? ⟨g, off + i, none⟩ = some u := by
  have hi := (List.getElem?_eq_some_iff.1 hu).1
  obtain ⟨g, off, c', e, hc⟩ := h.addr (by omega)
  injection e with e1 e2 e3
  exact ⟨g, off, e1, hc i u hu⟩
theorem SlAt.len {w : World} {ao : Option Addr} {n c : Nat} {xs : List Value} (h : SlAt w (.slice ao n c) xs) : xs.length = n := by
  obtain ⟨_, _, e, _⟩ := h.val
  injection e with e1 e2 e3
  exact e2.symm
theorem run_cut {P : Program} {t E : TypeId} {i : TypeInfo} (ht : P.underlying t = some (.slice E)) (hi : P.info? E = some i) (hs : i.size = 1) (a : Option Addr) (len cap lo hi' : Nat) (hlo : lo ≤ hi') (hhi : hi' ≤ cap) (w : World) :
    (Instr.slice t (.slice a len cap) (some (.int .i64 (lo : Int))) (some (.int .i64 (hi' : Int))) none).run P w = .ok (.slice (if cap = lo then a else a.map (·.add lo)) (hi' - lo) (cap - lo)) w := by
  have he : P.elem t = E := by simp [Program.elem, ht]
  rw [run_slice_lh w t a len cap (by rw [he]; exact ht) .i64 .i64 lo hi' (by omega) (by omega) (by omega), he]
  simp [sizeOf, typeInfo, hi, hs, sliced]
theorem run_cutAt {P : Program} {t E : TypeId} {i : TypeInfo} (ht : P.underlying t = some (.slice E)) (hi : P.info? E = some i) (hs : i.size = 1) (a : Option Addr) (len cap lo hi' : Nat) (hlo : lo ≤ hi') (hhi : hi' ≤ cap) (w : World) :
    (Instr.sliceAt t (.slice a len cap) (some (.int .i64 (lo : Int))) (some (.int .i64 (hi' : Int))) none).run P w = .ok (.slice (if cap = lo then a else a.map (·.add lo)) (hi' - lo) (cap - lo)) w := by
  have he : P.elem t = E := by simp [Program.elem, ht]
  rw [run_sliceAt_slice w t _ _ _ _ (by rw [he]; exact ht)]
  exact run_cut ht hi hs a len cap lo hi' hlo hhi w
theorem add_add (a : Addr) (i j : Nat) : (a.add i).add j = a.add (i + j) := by
  unfold Addr.add
  by_cases hi : i = 0 <;> by_cases hj : j = 0 <;> simp [hi, hj, Nat.add_assoc]
theorem SlAt.cut {w : World} {ao : Option Addr} {n c : Nat} {xs : List Value} (h : SlAt w (.slice ao n c) xs) {lo hi : Nat} (h1 : lo ≤ hi) (h2 : hi ≤ n) (h3 : n ≤ c) :
    SlAt w (.slice (if c = lo then ao else ao.map (·.add lo)) (hi - lo) (c - lo)) ((xs.drop lo).take (hi - lo)) := by
  have hl := h.len
  obtain ⟨ao', c', e, hn, hc⟩ := h.val
  injection e with e1 e2 e3
  subst e1; subst e3
  have hlen : ((xs.drop lo).take (hi - lo)).length = hi - lo := by rw [List.length_take, List.length_drop]; omega
  refine ⟨_, _, by rw [hlen], ?_, ?_⟩
  · intro h0
    have hz : ao = none ∨ c = lo := by
      by_cases hcl : c = lo
      · exact .inr hcl
      · rw [if_neg hcl] at h0
        cases ao with
        | none => exact .inl rfl
        | some a => cases h0
    apply List.eq_nil_of_length_eq_zero
    rw [hlen]
    rcases hz with h0 | h0
    · have := hn h0; rw [this] at hl; simp at hl; omega
    · omega
  · intro a ha j u hu
    have hj : j < hi - lo := by have := (List.getElem?_eq_some_iff.1 hu).1; omega
    rw [if_neg (by omega)] at ha
    cases ao with
    | none => cases ha
    | some b =>
      cases ha
      rw [add_add]
      rw [List.getElem?_take, if_pos hj, List.getElem?_drop] at hu
      exact hc b rfl _ u hu
theorem own_cap {w : World} {B : Nat} {E : TypeId} {ao : Option Addr} {s n m c : Nat} {xs : List Value} (h : w.ownsRow B E s (.slice ao n c) m xs) : m ≤ c := by
  rcases h.2 with ⟨e, h0⟩ | ⟨g, cap, cur, e, _, _, hm, _⟩
  · omega
  · injection e with e1 e2 e3; omega

theorem add_zero' (a : Addr) : a.add 0 = a := by unfold Addr.add; simp
theorem run_cutH {P : Program} {t E : TypeId} {i : TypeInfo} (ht : P.underlying t = some (.slice E)) (hi : P.info? E = some i) (hs : i.size = 1) (a : Option Addr) (len cap h : Nat) (hhi : h ≤ cap) (w : World) :
    (Instr.slice t (.slice a len cap) none (some (.int .i64 (h : Int))) none).run P w = .ok (.slice a h cap) w := by
  have he : P.elem t = E := by simp [Program.elem, ht]
  rw [run_slice_h w t a len cap (by rw [he]; exact ht) .i64 h (by omega) (by omega), he]
  have e : (a.map fun x => x.add 0) = a := by cases a <;> simp [add_zero']
  simp [sizeOf, typeInfo, hi, hs, sliced, e]
theorem run_cutHAt {P : Program} {t E : TypeId} {i : TypeInfo} (ht : P.underlying t = some (.slice E)) (hi : P.info? E = some i) (hs : i.size = 1) (a : Option Addr) (len cap h : Nat) (hhi : h ≤ cap) (w : World) :
    (Instr.sliceAt t (.slice a len cap) none (some (.int .i64 (h : Int))) none).run P w = .ok (.slice a h cap) w := by
  have he : P.elem t = E := by simp [Program.elem, ht]
  rw [run_sliceAt_slice w t _ _ _ _ (by rw [he]; exact ht)]
  exact run_cutH ht hi hs a len cap h hhi w
theorem SlAt.takeH {w : World} {ao : Option Addr} {n c : Nat} {xs : List Value} (h : SlAt w (.slice ao n c) xs) {k : Nat} (hk : k ≤ n) : SlAt w (.slice ao k c) (xs.take k) := by
  have hl := h.len
  obtain ⟨ao', c', e, hn, hc⟩ := h.val
  injection e with e1 e2 e3
  subst e1; subst e3
  refine ⟨ao, c, by rw [List.length_take, Nat.min_eq_left (by omega)], fun h0 => by rw [hn h0]; simp, fun a ha j u hu => hc a ha j u ?_⟩
  rw [List.getElem?_take] at hu
  split at hu
  · exact hu
  · cases hu
theorem own_takeH {w : World} {B : Nat} {E : TypeId} {ao : Option Addr} {n c : Nat} {xs : List Value} (h : w.ownsRow B E 1 (.slice ao n c) n xs) {k : Nat} (hk : k ≤ n) : w.ownsRow B E 1 (.slice ao k c) k (xs.take k) := by
  refine ⟨by rw [List.length_take, h.1]; omega, ?_⟩
  rcases h.2 with ⟨e, h0⟩ | ⟨g, cap, cur, e, hb, hg, hnc, hcm, hcs, ht⟩
  · injection e with e1 e2 e3
    subst e1; subst e3
    exact .inl ⟨by rw [show k = 0 by omega], by omega⟩
  · injection e with e1 e2 e3
    subst e1; subst e3
    refine .inr ⟨g, c, cur, rfl, hb, hg, by omega, hcm, hcs, ?_⟩
    rw [← ht, List.take_take]
    congr 1
    omega

theorem run_cutL {P : Program} {t E : TypeId} {i : TypeInfo} (ht : P.underlying t = some (.slice E)) (hi : P.info? E = some i) (hs : i.size = 1) (a : Option Addr) (len cap lo : Nat) (hlo : lo ≤ len) (w : World) :
    (Instr.slice t (.slice a len cap) (some (.int .i64 (lo : Int))) none none).run P w = .ok (.slice (if cap = lo then a else a.map (·.add lo)) (len - lo) (cap - lo)) w := by
  have he : P.elem t = E := by simp [Program.elem, ht]
  rw [run_slice_l w t a len cap (by rw [he]; exact ht) .i64 lo (by omega) (by omega), he]
  simp [sizeOf, typeInfo, hi, hs, sliced]
theorem run_cutLAt {P : Program} {t E : TypeId} {i : TypeInfo} (ht : P.underlying t = some (.slice E)) (hi : P.info? E = some i) (hs : i.size = 1) (a : Option Addr) (len cap lo : Nat) (hlo : lo ≤ len) (w : World) :
    (Instr.sliceAt t (.slice a len cap) (some (.int .i64 (lo : Int))) none none).run P w = .ok (.slice (if cap = lo then a else a.map (·.add lo)) (len - lo) (cap - lo)) w := by
  have he : P.elem t = E := by simp [Program.elem, ht]
  rw [run_sliceAt_slice w t _ _ _ _ (by rw [he]; exact ht)]
  exact run_cutL ht hi hs a len cap lo hlo w
theorem SlAt.cutL {w : World} {ao : Option Addr} {n c : Nat} {xs : List Value} (h : SlAt w (.slice ao n c) xs) {lo : Nat} (h1 : lo ≤ n) (h3 : n ≤ c) :
    SlAt w (.slice (if c = lo then ao else ao.map (·.add lo)) (n - lo) (c - lo)) (xs.drop lo) := by
  have := h.cut (lo := lo) (hi := n) h1 (Nat.le_refl _) h3
  rwa [List.take_of_length_le (by rw [List.length_drop, h.len]; exact Nat.le_refl _)] at this

/-- A row of one-cell elements that was made behind the world W. -/
structure Mine (W w : World) (E : TypeId) (v : Value) (xs : List Value) : Prop where
  own : w.ownsRow W.heap.size E 1 v xs.length xs
  kept : Kept (fun _ => False) W w
theorem Mine.nil (w : World) (E : TypeId) : Mine w w E (.slice none 0 0) [] := ⟨World.ownsRow_nil _ _ _ _, Kept.refl _ _⟩
theorem Mine.nil' {W w : World} (E : TypeId) (h : Kept (fun _ => False) W w) : Mine W w E (.slice none 0 0) [] := ⟨World.ownsRow_nil _ _ _ _, h⟩
theorem Mine.on {W w w' : World} {E : TypeId} {v : Value} {xs : List Value} (h : Mine W w E v xs) (hk : Kept (fun _ => False) w w') : Mine W w' E v xs := ⟨hk.owns h.own (fun _ _ x => x), h.kept.trans hk⟩
theorem Mine.alloc {W w : World} {E : TypeId} {v : Value} {xs : List Value} (h : Mine W w E v xs) (o : Obj) : Mine W (w.alloc o) E v xs := h.on ((Kept.refl _ _).alloc o)
theorem Mine.down {W W0 w : World} {E : TypeId} {v : Value} {xs : List Value} (h : Mine W w E v xs) (hk : Kept (fun _ => False) W0 W) : Mine W0 w E v xs := by
  refine ⟨⟨h.own.1, ?_⟩, hk.trans h.kept⟩
  rcases h.own.2 with h0 | ⟨g, cap, cur, e, hg, rest⟩
  · exact .inl h0
  · exact .inr ⟨g, cap, cur, e, Nat.le_trans hk.size hg, rest⟩
theorem Mine.at_ {W w : World} {E : TypeId} {v : Value} {xs : List Value} (h : Mine W w E v xs) : SlAt w v xs := SlAt.ofOwn h.own
theorem Mine.slice {W w : World} {E : TypeId} {v : Value} {xs : List Value} (h : Mine W w E v xs) : ∃ a c, v = .slice a xs.length c := ownsRow_slice h.own
theorem Mine.ofFresh {W w : World} {E : TypeId} {v : Value} {n : Nat} {xs : List Value} (h : w.ownsRow W.heap.size E 1 v n xs) (hk : Kept (fun _ => False) W w) : Mine W w E v xs := by
  have : xs.length = n := by simpa using h.1
  subst this
  exact ⟨h, hk⟩

theorem wpList_mine {P : Program} {ops : Array Oper} {rest : List Oper} {o : Oper} {a : Act} {Q : Exit → Act → World → Prop} {w : World} (hgd : o.guard = none) (s x : Operand) (t tx : TypeId)
    (ho : o.op = .call { callee := .builtin .append, args := #[s, x], argTypes := #[t, tx] })
    (e : TypeId) (i : TypeInfo) (z : Value) (bytes : Nat) (ht : P.underlying t = some (.slice e)) (hi : P.info? e = some i) (hz : i.zero = some z)
    (hsize : i.size = 1) (hby : i.bytes = bytes) (hzs : z.cells.size = 1) (hb : bytes ≤ 64)
    (W : World) (v : Value) (xs : List Value) (hv : a.eval s = v) (hm : Mine W w e v xs)
    (y : Value) (news : List Value) (hy : a.eval x = y) (hs : Src P 1 tx y news.length news w)
    (hl : xs.length + news.length ≤ 1000000000000)
    (h : ∀ v' w', Mine W w' e v' (xs ++ news) → wpList P ops Q rest (a.put o.dst v') w') : wpList P ops Q (o :: rest) a w := by
  refine wpList_append_src w hgd s x t tx ho W.heap.size e i z 1 bytes ht hi hz hsize hby hzs v xs.length xs hv hm.own y news.length news hy hs (by unfold maxLen; omega) ?_ hm.kept.size ?_
  · have := Nat.mul_le_mul hl hb; omega
  · intro v' w' hown hg _ _
    refine h v' w' ⟨by rw [List.length_append]; exact hown, hm.kept.grown hg (fun k e hlt => ?_)⟩
    have := (ownsRow_lt hm.own e).2; omega
theorem Kept.newer {W w w' : World} {S : Nat → Prop} (h : Kept (fun _ => False) W w) (k : Kept S w w') (hs : ∀ i, S i → W.heap.size ≤ i) : Kept (fun _ => False) W w' := h.step k (fun i hi x => by have := hs i x; omega)
theorem Kept.newest {W w w' : World} {S : Nat → Prop} (h : Kept (fun _ => False) W w) (k : Kept S w w') (hs : ∀ i, S i → W.heap.size ≤ i) : Kept (fun _ => False) W w' := h.newer k hs
theorem Mine.keptS {S : Nat → Prop} {W w w' : World} {E : TypeId} {v : Value} {xs : List Value} (h : Mine W w E v xs) (hk : Kept S w w') (hn : ∀ k, v.ownBlock = some k → ¬ S k) (hs : ∀ k, S k → W.heap.size ≤ k) : Mine W w' E v xs := ⟨hk.owns h.own hn, h.kept.newer hk hs⟩
theorem own_box {w : World} {B : Nat} {v : Value} {xs : List Value} {n s : Nat} {T E : TypeId} {cs : Array Value} {fr : Nat × Nat} {k : Nat} (ho : w.ownsRow B E s v n xs) (hb : w.heap[k]? = some (.cells cs T fr)) (hne : E ≠ T) : v.ownBlock ≠ some k := by
  intro e
  obtain ⟨cur, hc⟩ := ownsRow_block ho e
  rw [hb] at hc
  injection hc with this; injection this with _ e _
  exact hne e.symm
/-- The same, with what was turned. -/
theorem wpList_mine2 {P : Program} {ops : Array Oper} {rest : List Oper} {o : Oper} {a : Act} {Q : Exit → Act → World → Prop} {w : World} (hgd : o.guard = none) (s x : Operand) (t tx : TypeId)
    (ho : o.op = .call { callee := .builtin .append, args := #[s, x], argTypes := #[t, tx] })
    (e : TypeId) (i : TypeInfo) (z : Value) (bytes : Nat) (ht : P.underlying t = some (.slice e)) (hi : P.info? e = some i) (hz : i.zero = some z)
    (hsize : i.size = 1) (hby : i.bytes = bytes) (hzs : z.cells.size = 1) (hb : bytes ≤ 64)
    (W : World) (v : Value) (xs : List Value) (hv : a.eval s = v) (hm : Mine W w e v xs)
    (y : Value) (news : List Value) (hy : a.eval x = y) (hs : Src P 1 tx y news.length news w)
    (hl : xs.length + news.length ≤ 1000000000000)
    (h : ∀ v' w', Mine W w' e v' (xs ++ news) → Kept (fun k => v.ownBlock = some k) w w' → (v'.ownBlock = v.ownBlock ∨ v'.ownBlock = some w.heap.size) → wpList P ops Q rest (a.put o.dst v') w') : wpList P ops Q (o :: rest) a w := by
  refine wpList_append_src w hgd s x t tx ho W.heap.size e i z 1 bytes ht hi hz hsize hby hzs v xs.length xs hv hm.own y news.length news hy hs (by unfold maxLen; omega) ?_ hm.kept.size ?_
  · have := Nat.mul_le_mul hl hb; omega
  · intro v' w' hown hg _ hat
    refine h v' w' ⟨by rw [List.length_append]; exact hown, hm.kept.grown hg (fun k e hlt => ?_)⟩ ((Kept.refl (fun k => v.ownBlock = some k) w).grown hg (fun k e _ => e)) hat
    have := (ownsRow_lt hm.own e).2; omega
/-- At a step of a region that draws its order. -/
theorem step_mine {P : Program} {ops : Array Oper} {o : Oper} {a : Act} {K : Act → World → Prop} {Q : Exit → Act → World → Prop} {E : Prop} {w : World} (hgd : o.guard = none) (s x : Operand) (t tx : TypeId)
    (ho : o.op = .call { callee := .builtin .append, args := #[s, x], argTypes := #[t, tx] })
    (e : TypeId) (i : TypeInfo) (z : Value) (bytes : Nat) (ht : P.underlying t = some (.slice e)) (hi : P.info? e = some i) (hz : i.zero = some z)
    (hsize : i.size = 1) (hby : i.bytes = bytes) (hzs : z.cells.size = 1) (hb : bytes ≤ 64)
    (W : World) (v : Value) (xs : List Value) (hv : a.eval s = v) (hm : Mine W w e v xs)
    (y : Value) (news : List Value) (hy : a.eval x = y) (hs : Src P 1 tx y news.length news w)
    (hl : xs.length + news.length ≤ 1000000000000)
    (h : ∀ v' w', Mine W w' e v' (xs ++ news) → Kept (fun k => v.ownBlock = some k) w w' → (v'.ownBlock = v.ownBlock ∨ v'.ownBlock = some w.heap.size) → K (a.put o.dst v') w') :
    if Region.wanted o (yielded ops a.tmps) = true then Oper.wp P o a w K Q else E := by
  refine step_append_src w hgd s x t tx ho W.heap.size e i z 1 bytes ht hi hz hsize hby hzs v xs.length xs hv hm.own y news.length news hy hs (by unfold maxLen; omega) ?_ hm.kept.size ?_
  · have := Nat.mul_le_mul hl hb; omega
  · intro v' w' hown hg _ hat
    refine h v' w' ⟨by rw [List.length_append]; exact hown, hm.kept.grown hg (fun k e hlt => ?_)⟩ ((Kept.refl (fun k => v.ownBlock = some k) w).grown hg (fun k e _ => e)) hat
    have := (ownsRow_lt hm.own e).2; omega
theorem Mine.src {P : Program} {W w w' : World} {E t e : TypeId} {v : Value} {xs : List Value} (h : Mine W w E v xs) (hk : Kept (fun _ => False) w w') (ht : P.underlying t = some (.slice e)) (h1 : ∀ u ∈ xs, u.oneCell' = true) : Src P 1 t v xs.length xs w' := (h.on hk).at_.src ht h1

/-- A slice of integers that came in, as the row of its elements. -/
theorem IsRow.slAtI {k : IntKind} {w : World} {a : Option Addr} {len cap : Nat} {zs : List Int} (h : IsRow k w a len cap zs) :
    ∃ l : List Int, l.length = len ∧ (∀ x ∈ l, (Lit.int k x).wf = true) ∧ SlAt w (.slice a len cap) (l.map (Value.int k)) := by
  rcases h with ⟨rfl, rfl, rfl, rfl⟩ | ⟨x, rfl, hlc, _, hz, hcell, hwf⟩
  · exact ⟨[], rfl, by simp, ⟨none, 0, rfl, fun _ => rfl, by simp⟩⟩
  · refine ⟨zs.take len, by simp; omega, fun y hy => hwf y (List.mem_of_mem_take hy), ⟨some x, cap, ?_, (fun e => by cases e), ?_⟩⟩
    · rw [List.length_map, List.length_take, Nat.min_eq_left (by omega)]
    · intro a ha j u hu
      cases ha
      have hj : j < len := by
        have := (List.getElem?_eq_some_iff.1 hu).1
        simp at this; omega
      have hjz : j < zs.length := by omega
      rw [hcell j hjz, List.getD_eq_getElem?_getD, List.getElem?_eq_getElem hjz]
      simp only [List.getElem?_map, List.getElem?_take, if_pos hj, List.getElem?_eq_getElem hjz, Option.map_some] at hu
      exact hu
theorem IsRow.slAtN {k : IntKind} {w : World} {a : Option Addr} {len cap : Nat} {zs : List Int} (M : Nat) (hk : ∀ x, (Lit.int k x).wf = true → 0 ≤ x ∧ x < M) (h : IsRow k w a len cap zs) :
    ∃ l : List Nat, l.length = len ∧ (∀ x ∈ l, x < M) ∧ SlAt w (.slice a len cap) (l.map fun (n : Nat) => Value.int k (n : Int)) := by
  obtain ⟨l, hl, hb, hv⟩ := h.slAtI
  refine ⟨l.map Int.toNat, by simpa using hl, ?_, ?_⟩
  · intro n hn
    obtain ⟨m, hm, rfl⟩ := List.mem_map.1 hn
    have := hk m (hb m hm)
    omega
  · have e : (l.map Int.toNat).map (fun (n : Nat) => Value.int k (n : Int)) = l.map (Value.int k) := by
      rw [List.map_map]
      apply List.map_congr_left
      intro m hm
      have := hk m (hb m hm)
      simp only [Function.comp_apply]
      congr 1
      omega
    rw [e]; exact hv
theorem wf_u64 (x : Int) (h : (Lit.int .u64 x).wf = true) : 0 ≤ x ∧ x < (18446744073709551616 : Nat) := by
  have := bd_u64 h; omega


def uvals (l : List Nat) : List Value := l.map fun (n : Nat) => Value.int .u64 (n : Int)
theorem uvals_get {l : List Nat} {j : Nat} (h : j < l.length) : (uvals l)[j]? = some (.int .u64 ((l.getD j 0 : Nat) : Int)) := by
  simp [uvals, List.getD_eq_getElem?_getD, List.getElem?_eq_getElem h]
theorem getD_u64 {l : List Nat} (h : ∀ x ∈ l, x < 18446744073709551616) (j : Nat) : l.getD j 0 < 18446744073709551616 := by
  rw [List.getD_eq_getElem?_getD]
  by_cases hj : j < l.length
  · rw [List.getElem?_eq_getElem hj]; exact h _ (List.getElem_mem hj)
  · rw [List.getElem?_eq_none (by omega)]; decide
/-- Signed numbers as values. -/
def vals (l : List Int) : List Value := l.map (Value.int .i64)
@[simp] theorem vals_length (l : List Int) : (vals l).length = l.length := by simp [vals]
theorem vals_get {l : List Int} {j : Nat} (h : j < l.length) : (vals l)[j]? = some (.int .i64 (l.getD j 0)) := by
  simp [vals, List.getD_eq_getElem?_getD, List.getElem?_eq_getElem h]
theorem vals_one (l : List Int) : ∀ u ∈ vals l, u.oneCell' = true := by
  intro u hu; obtain ⟨x, _, rfl⟩ := List.mem_map.1 hu; rfl
/-- A signed number of 64 bits. -/
def I64 (x : Int) : Prop := -9223372036854775808 ≤ x ∧ x ≤ 9223372036854775807
theorem getD_I64 {l : List Int} (h : ∀ x ∈ l, I64 x) (j : Nat) : I64 (l.getD j 0) := by
  rw [List.getD_eq_getElem?_getD]
  by_cases hj : j < l.length
  · rw [List.getElem?_eq_getElem hj]; exact h _ (List.getElem_mem hj)
  · rw [List.getElem?_eq_none (by omega)]; exact ⟨by decide, by decide⟩

theorem uvals_length (l : List Nat) : (uvals l).length = l.length := by simp [uvals]
theorem uvals_one (l : List Nat) : ∀ u ∈ uvals l, u.oneCell' = true := by
  intro u hu; obtain ⟨x, _, rfl⟩ := List.mem_map.1 hu; rfl
theorem wrap64_range (x : Int) : I64 (wrap64 x) := by unfold I64 wrap64; omega
/-- A signed number's bits as a number. -/
def uN (d : Int) : Nat := (d % 18446744073709551616).toNat
theorem uN_lt (d : Int) : uN d < 18446744073709551616 := by unfold uN; omega
theorem uN_u64 (d : Int) : IntKind.u64.wrap d = ((uN d : Nat) : Int) := by rw [IntKind.wrap_u64]; unfold uN; omega
theorem uN_i64 (d : Int) (h0 : -9223372036854775808 ≤ d) (h1 : d ≤ 9223372036854775807) : wrap64 ((uN d : Nat) : Int) = d := by unfold uN wrap64; omega
theorem beqT {a b : Int} (h : a = b) : (a == b) = true := beq_iff_eq.2 h
theorem beqF {a b : Int} (h : a ≠ b) : (a == b) = false := beq_eq_false_iff_ne.2 h
theorem bneT {a b : Int} (h : a ≠ b) : (a != b) = true := bne_iff_ne.2 h
theorem bneF {a b : Int} (h : a = b) : (a != b) = false := by simp [h]
theorem owns_set {w : World} {base : Nat} {E : TypeId} {g n cap : Nat} {xs : List Value} (h : w.ownsRow base E 1 (.slice (some ⟨g, 0, none⟩) n cap) n xs) (j : Nat) (u : Value) :
    (w.setCell ⟨g, j, none⟩ u).ownsRow base E 1 (.slice (some ⟨g, 0, none⟩) n cap) n (xs.set j u) := by
  refine ⟨by simpa using h.1, ?_⟩
  rcases h.2 with ⟨e, _⟩ | ⟨g', cap', cur, e, hb, hg, hn, hm, hs, ht⟩
  · cases e
  · injection e with e1 e2 e3
    injection e1 with e1
    injection e1 with e1
    subst e1
    subst e3
    refine .inr ⟨g, cap, cur.setIfInBounds j u, rfl, hb, ?_, hn, hm, by simpa using hs, ?_⟩
    · simp [World.setCell, Array.getElem?_modify, hg]
    · rw [← ht]
      simp [List.take_set]
end Go.Proofs.YtficodklidaheaaDoor
/- Rows of structs: of one shape each, of sz cells; those that came in, and those that are made. -/
namespace Go.Proofs.YtficodklidaheaaDoor
open Go.RowKit
attribute [local go_sem ↓] Go.wp_at_zero Go.wp_at_succ

def flatG {α : Type} (c : α → List Value) (L : List α) : List Value := L.flatMap c
/-- What a struct's cells are like. -/
structure Cf {α : Type} (c : α → List Value) (sz : Nat) : Prop where
  len : ∀ x, (c x).length = sz
  one : ∀ x, ∀ u ∈ c x, u.oneCell' = true
theorem flatG_length {α : Type} {c : α → List Value} {sz : Nat} (hc : Cf c sz) (L : List α) : (flatG c L).length = L.length * sz := by
  induction L with
  | nil => simp [flatG]
  | cons p L ih => unfold flatG at ih ⊢; rw [List.flatMap_cons, List.length_append, ih, hc.len, List.length_cons, Nat.succ_mul, Nat.add_comm]
theorem flatG_append {α : Type} (c : α → List Value) (a b : List α) : flatG c (a ++ b) = flatG c a ++ flatG c b := by simp [flatG]
theorem flatG_one' {α : Type} (c : α → List Value) (a : α) : flatG c [a] = c a := by simp [flatG]
theorem flatG_get {α : Type} {c : α → List Value} {sz : Nat} (hc : Cf c sz) {L : List α} {i : Nat} {p : α} (h : L[i]? = some p) {j : Nat} (hj : j < sz) : (flatG c L)[i * sz + j]? = (c p)[j]? := by
  induction L generalizing i with
  | nil => simp at h
  | cons q L ih =>
    unfold flatG at ih ⊢
    rw [List.flatMap_cons]
    have hq := hc.len q
    cases i with
    | zero =>
      simp at h; subst h
      rw [List.getElem?_append_left (by rw [hq]; omega)]; simp
    | succ i =>
      simp at h
      rw [Nat.succ_mul, List.getElem?_append_right (by rw [hq]; omega), hq, show i * sz + sz + j - sz = i * sz + j by omega]
      exact ih h
theorem flatG_all {α : Type} {c : α → List Value} {sz : Nat} (hc : Cf c sz) (L : List α) : ∀ u ∈ flatG c L, u.oneCell' = true := by
  intro u hu
  unfold flatG at hu
  obtain ⟨p, _, hp⟩ := List.mem_flatMap.1 hu
  exact hc.one p u hp
/-- Structs lie in a row. -/
def GAt {α : Type} (c : α → List Value) (sz : Nat) (w : World) (ao : Option Addr) (L : List α) : Prop := 0 < L.length → ∃ g o, ao = some ⟨g, o, none⟩ ∧ ∀ i p, L[i]? = some p → ∀ j u, (c p)[j]? = some u → w.cell? ⟨g, o + i * sz + j, none⟩ = some u
theorem GAt.keptS {α : Type} {c : α → List Value} {sz : Nat} {S : Nat → Prop} {W w : World} {ao : Option Addr} {L : List α} (h : GAt c sz W ao L) (k : Kept S W w) (hn : ∀ a, ao = some a → 0 < L.length → ¬ S a.block) : GAt c sz w ao L := by
  intro h0
  obtain ⟨g, o, e, hr⟩ := h h0
  exact ⟨g, o, e, fun i p hi j u hu => k.cell (hr i p hi j u hu) (show ¬ S g from hn ⟨g, o, none⟩ e h0)⟩
theorem GAt.kept {α : Type} {c : α → List Value} {sz : Nat} {W w : World} {ao : Option Addr} {L : List α} (h : GAt c sz W ao L) (k : Kept (fun _ => False) W w) : GAt c sz w ao L := h.keptS k (fun _ _ _ x => x)
theorem GAt.take {α : Type} {c : α → List Value} {sz : Nat} {W : World} {ao : Option Addr} {L : List α} (h : GAt c sz W ao L) (n : Nat) : GAt c sz W ao (L.take n) := by
  intro h0
  obtain ⟨g, o, e, hr⟩ := h (by rw [List.length_take] at h0; omega)
  refine ⟨g, o, e, fun i p hi => hr i p ?_⟩
  rw [List.getElem?_take] at hi
  split at hi
  · exact hi
  · cases hi
theorem GAt.src {α : Type} {c : α → List Value} {sz : Nat} (hc : Cf c sz) (hz : 0 < sz) {P : Program} {t e : TypeId} (ht : P.underlying t = some (.slice e)) {w : World} {ao : Option Addr} {L : List α} {cp : Nat} (h : GAt c sz w ao L) : Src P sz t (.slice ao L.length cp) L.length (flatG c L) w := by
  cases ao with
  | none =>
    have hz : L.length = 0 := by
      rcases Nat.eq_zero_or_pos L.length with h1 | h1
      · exact h1
      · obtain ⟨_, _, e, _⟩ := h h1; cases e
    obtain rfl : L = [] := List.length_eq_zero_iff.1 hz
    exact Src.ofNil (w := w) ht cp
  | some a =>
    refine Src.ofSlice _ ht a L.length cp (flatG c L) (flatG_length hc L) ?_ (flatG_all hc L)
    intro j u hu
    have hj : j < L.length * sz := by have := (List.getElem?_eq_some_iff.1 hu).1; rwa [flatG_length hc] at this
    have h0 : 0 < L.length := by
      rcases Nat.eq_zero_or_pos L.length with h1 | h1
      · rw [h1, Nat.zero_mul] at hj; omega
      · exact h1
    obtain ⟨g, o, e, hr⟩ := h h0
    cases e
    have hi : j / sz < L.length := Nat.div_lt_of_lt_mul (by rw [Nat.mul_comm]; exact hj)
    have hm : j % sz < sz := Nat.mod_lt _ hz
    have e2 : j / sz * sz + j % sz = j := by rw [Nat.mul_comm]; exact Nat.div_add_mod j sz
    have hg := flatG_get hc (List.getElem?_eq_getElem hi) hm
    rw [e2, hu] at hg
    have := hr (j / sz) L[j / sz] (List.getElem?_eq_getElem hi) (j % sz) u hg.symm
    have e : (⟨g, o, none⟩ : Addr).add j = ⟨g, o + j, none⟩ := by unfold Addr.add; split <;> simp_all
    rw [e, show o + j = o + j / sz * sz + j % sz by omega]
    exact this

/-- A row of structs that was made behind the world W. -/
structure MineG {α : Type} (c : α → List Value) (sz : Nat) (E : TypeId) (W w : World) (v : Value) (L : List α) : Prop where
  own : w.ownsRow W.heap.size E sz v L.length (flatG c L)
  kept : Kept (fun _ => False) W w
theorem MineG.nil {α : Type} {c : α → List Value} {sz : Nat} {E : TypeId} {W w : World} (k : Kept (fun _ => False) W w) : MineG c sz E W w (.slice none 0 0) [] := ⟨World.ownsRow_nil _ _ _ _, k⟩
theorem MineG.on {α : Type} {c : α → List Value} {sz : Nat} {E : TypeId} {W w w' : World} {v : Value} {L : List α} (h : MineG c sz E W w v L) (hk : Kept (fun _ => False) w w') : MineG c sz E W w' v L := ⟨hk.owns h.own (fun _ _ x => x), h.kept.trans hk⟩
theorem MineG.keptS {α : Type} {c : α → List Value} {sz : Nat} {E : TypeId} {S : Nat → Prop} {W w w' : World} {v : Value} {L : List α} (h : MineG c sz E W w v L) (hk : Kept S w w') (hn : ∀ k, v.ownBlock = some k → ¬ S k) (hs : ∀ k, S k → W.heap.size ≤ k) : MineG c sz E W w' v L := ⟨hk.owns h.own hn, h.kept.newer hk hs⟩
theorem MineG.down {α : Type} {c : α → List Value} {sz : Nat} {E : TypeId} {W0 W w : World} {v : Value} {L : List α} (h : MineG c sz E W w v L) (hk : Kept (fun _ => False) W0 W) : MineG c sz E W0 w v L := by
  refine ⟨⟨h.own.1, ?_⟩, hk.trans h.kept⟩
  rcases h.own.2 with h0 | ⟨g, cap, cur, e, hg, rest⟩
  · exact .inl h0
  · exact .inr ⟨g, cap, cur, e, Nat.le_trans hk.size hg, rest⟩
theorem MineG.slice {α : Type} {c : α → List Value} {sz : Nat} {E : TypeId} {W w : World} {v : Value} {L : List α} (h : MineG c sz E W w v L) : ∃ a cp, v = .slice a L.length cp := ownsRow_slice h.own
theorem MineG.at_ {α : Type} {c : α → List Value} {sz : Nat} (hcf : Cf c sz) {E : TypeId} {W w : World} {a : Option Addr} {n cp : Nat} {L : List α} (h : MineG c sz E W w (.slice a n cp) L) : GAt c sz w a L := by
  intro h0
  rcases h.own.2 with ⟨_, e⟩ | ⟨g, cap, cur, e, _⟩
  · omega
  · injection e with e1 e2 e3
    subst e1
    refine ⟨g, 0, rfl, fun i p hi j u hu => ?_⟩
    have hj : j < sz := by have := (List.getElem?_eq_some_iff.1 hu).1; rwa [hcf.len] at this
    have hc := h.own.cells (g := g) rfl
    have := hc (i * sz + j) u (by rw [flatG_get hcf hi hj]; exact hu)
    rw [addr_add0] at this
    rw [Nat.zero_add]; exact this
theorem src_oneG {α : Type} {c : α → List Value} {sz : Nat} (hc : Cf c sz) {P : Program} {t E : TypeId} (ht : P.underlying t = some (.slice E)) (w : World) (p : α) : Src P sz t (.slice (some ⟨w.heap.size, 0, none⟩) 1 1) 1 (c p) (w.alloc (.cells (c p).toArray E)) :=
  Src.ofSlice _ ht _ 1 1 (c p) (by rw [hc.len, Nat.one_mul]) (World.news_of_block (cs := (c p).toArray) (t := E) (fr := (0, 0)) (heap_alloc_new w _)) (hc.one p)
theorem wpList_mineG {α : Type} {c : α → List Value} {sz : Nat} {P : Program} {ops : Array Oper} {rest : List Oper} {o : Oper} {a : Act} {Q : Exit → Act → World → Prop} {w : World} (hgd : o.guard = none) (s x : Operand) {t E : TypeId}
    (ho : o.op = .call { callee := .builtin .append, args := #[s, x], argTypes := #[t, t] })
    (ht : P.underlying t = some (.slice E)) {i : TypeInfo} {z : Value} {by' : Nat} (hi : P.info? E = some i) (hz0 : i.zero = some z) (hz1 : i.size = sz) (hz2 : i.bytes = by') (hz3 : z.cells.size = sz)
    (W : World) (v : Value) (L : List α) (hv : a.eval s = v) (hm : MineG c sz E W w v L)
    (y : Value) (M : List α) (m : Nat) (hmm : M.length = m) (hy : a.eval x = y) (hs : Src P sz t y m (flatG c M) w)
    (hl : L.length + m ≤ 1000000000) (hby : by' ≤ 100000)
    (h : ∀ v' w', MineG c sz E W w' v' (L ++ M) → Kept (fun k => v.ownBlock = some k) w w' → (v'.ownBlock = v.ownBlock ∨ v'.ownBlock = some w.heap.size) → wpList P ops Q rest (a.put o.dst v') w') : wpList P ops Q (o :: rest) a w := by
  have hb : (L.length + m) * by' ≤ 1000000000 * 100000 := Nat.mul_le_mul hl hby
  refine wpList_append_src w hgd s x _ _ ho W.heap.size E i z sz by' ht hi hz0 hz1 hz2 hz3 v L.length (flatG c L) hv hm.own y m (flatG c M) hy hs (by unfold maxLen; omega) (by omega) hm.kept.size ?_
  intro v' w' hown hg _ hat
  refine h v' w' ⟨?_, ?_⟩ ((Kept.refl (fun k => v.ownBlock = some k) w).grown hg (fun k e _ => e)) hat
  · rw [List.length_append, flatG_append, hmm]
    exact hown
  · exact hm.kept.grown hg (fun k e hlt => by have := (ownsRow_lt hm.own e).2; omega)
end Go.Proofs.YtficodklidaheaaDoor
/- Texts, byte by byte. -/
namespace Go.Proofs.YtficodklidaheaaDoor
open Go.RowKit
attribute [local go_sem ↓] Go.wp_at_zero Go.wp_at_succ

/-- A text's i-th byte. -/
def chr (s : ByteArray) (i : Nat) : Nat := (s.toList.getD i 0).toNat
theorem toList_size (s : ByteArray) : s.toList.length = s.size := by rw [ByteArray.toList_eq]; exact Array.length_toList
theorem chr_lt (s : ByteArray) (i : Nat) : chr s i < 256 := (s.toList.getD i 0).toNat_lt
theorem run_chr {P : Program} {t : TypeId} (h : P.underlying t = some .string) (s : ByteArray) (i : Nat) (hi : i < s.size) (w : World) : (Instr.index t (.string s) (.int .i64 (i : Int))).run P w = .ok (.int .u8 (chr s i : Int)) w := by
  have hl : s.toList.length = s.size := toList_size s
  rw [run_index_string w t s .i64 i h, dif_pos ⟨by omega, by omega⟩]
  have e : chr s i = (s[((i : Nat) : Int).toNat]'(by omega)).toNat := by
    unfold chr
    rw [List.getD_eq_getElem?_getD, List.getElem?_eq_getElem (by omega)]
    have h2 : s.toList = s.data.toList := ByteArray.toList_eq s
    simp only [h2, Option.getD_some, Array.getElem_toList]
    rfl
  rw [e]
theorem eqT {a b : Nat} (h : a = b) : ((a : Int) == (b : Int)) = true := by simp [h]
theorem toList_extractX (s : ByteArray) (i j : Nat) : (s.extract i j).toList = (s.toList.take j).drop i := by
  rw [ByteArray.toList_eq, ByteArray.toList_eq, ByteArray.data_extract, Array.toList_extract]
  simp [List.drop_take]
/-- A text's bytes as numbers. -/
def bl (s : ByteArray) : List Nat := s.toList.map UInt8.toNat
theorem bl_length (s : ByteArray) : (bl s).length = s.size := by unfold bl; rw [List.length_map, toList_size]
theorem bl_get {s : ByteArray} {i : Nat} (h : i < s.size) : (bl s)[i]? = some (chr s i) := by
  have h2 : i < s.toList.length := by rw [toList_size]; exact h
  unfold bl chr
  rw [List.getElem?_map, List.getElem?_eq_getElem h2, List.getD_eq_getElem?_getD, List.getElem?_eq_getElem h2]; rfl
theorem bl_getD (s : ByteArray) (i : Nat) : (bl s).getD i 0 = chr s i := by
  unfold bl chr
  rw [List.getD_eq_getElem?_getD, List.getElem?_map, List.getD_eq_getElem?_getD]
  cases s.toList[i]? <;> rfl
theorem bl_lt {s : ByteArray} {x : Nat} (h : x ∈ bl s) : x < 256 := by
  unfold bl at h
  obtain ⟨b, _, rfl⟩ := List.mem_map.1 h
  exact b.toNat_lt
theorem bl_extract (s : ByteArray) (i j : Nat) : bl (s.extract i j) = ((bl s).take j).drop i := by
  unfold bl; rw [toList_extractX, List.map_drop, List.map_take]
theorem bl_from (s : ByteArray) (i : Nat) : bl (s.extract i s.size) = (bl s).drop i := by
  rw [bl_extract, List.take_of_length_le (by rw [bl_length]; exact Nat.le_refl _)]
theorem bl_append (a b : ByteArray) : bl (a ++ b) = bl a ++ bl b := by
  unfold bl
  rw [← List.map_append]
  congr 1
  simp [ByteArray.toList_eq]
theorem bl_inj {a b : ByteArray} (h : bl a = bl b) : a = b := by
  unfold bl at h
  have h2 : a.toList = b.toList := (List.map_inj_right (fun x y e => UInt8.toNat_inj.1 e)).1 h
  rw [ByteArray.toList_eq, ByteArray.toList_eq] at h2
  cases a; cases b
  simp at h2
  cases h2
  rfl
theorem drop_cons {l : List Nat} {i : Nat} (h : i < l.length) : l.drop i = l.getD i 0 :: l.drop (i + 1) := by
  rw [List.drop_eq_getElem_cons h, List.getD_eq_getElem?_getD, List.getElem?_eq_getElem h]; rfl
theorem size_from (s : ByteArray) (i : Nat) : (s.extract i s.size).size = s.size - i := by simp [ByteArray.size_extract]
theorem size_cut (s : ByteArray) (i j : Nat) (h : j ≤ s.size) : (s.extract i j).size = j - i := by simp [ByteArray.size_extract]; omega
end Go.Proofs.YtficodklidaheaaDoor
