/- Texts put together: SN, GR, S1. -/
import Derived.Test.YtficodklidaheaaDoorZz2
import Derived.Lib.ConvBytes
import Derived.Deep.WholeRow
import Derived.Test.YtficodklidaheaaDoorZz4
import Derived.Laws.Rows
import Derived.Test.YtficodklidaheaaDoorZz9
/- Bytes as texts: rows of bytes that are made, and their texts. -/
namespace Go.Proofs.YtficodklidaheaaDoor
open Go.RowKit
attribute [local go_sem ↓] Go.wp_at_zero Go.wp_at_succ

def byV (l : List Nat) : List Value := l.map fun (n : Nat) => Value.int .u8 (n : Int)
@[simp] theorem byV_length (l : List Nat) : (byV l).length = l.length := by simp [byV]
theorem byV_get {l : List Nat} {j : Nat} (h : j < l.length) : (byV l)[j]? = some (.int .u8 ((l.getD j 0 : Nat) : Int)) := by
  simp [byV, List.getD_eq_getElem?_getD, List.getElem?_eq_getElem h]
theorem byV_one (l : List Nat) : ∀ u ∈ byV l, u.oneCell' = true := by
  intro u hu
  obtain ⟨n, _, rfl⟩ := List.mem_map.1 hu
  rfl
theorem byV_append (a b : List Nat) : byV (a ++ b) = byV a ++ byV b := by simp [byV]
/-- Bytes as a text. -/
def strL (l : List Nat) : ByteArray := strOfNums (l.map fun (n : Nat) => (n : Int))
theorem strL_list (l : List Nat) : (strL l).toList = l.map UInt8.ofNat := by
  rw [ByteArray.toList_eq]
  simp [strL, strOfNums, List.map_map, Function.comp_def]
theorem bl_strL {l : List Nat} (h : ∀ x ∈ l, x < 256) : bl (strL l) = l := by
  unfold bl
  rw [strL_list, List.map_map]
  conv => rhs; rw [← List.map_id l]
  refine List.map_congr_left fun x hx => ?_
  have := h x hx
  simp; omega
theorem strL_bl (s : ByteArray) : strL (bl s) = s := bl_inj (bl_strL (fun _ hx => bl_lt hx))
theorem run_strL {P : Program} {w : World} {v : Value} {l : List Nat} (h : SlAt w v (byV l)) (src e dst : TypeId) (hs : P.underlying src = some (.slice e)) (he : P.underlying e = some (.int .u8)) (hd : P.underlying dst = some .string) :
    (convert src dst v).run P w = .ok (.string (strL l)) w := by
  rcases Nat.eq_zero_or_pos l.length with h0 | h0
  · obtain rfl : l = [] := List.eq_nil_of_length_eq_zero h0
    obtain ⟨ao, c, rfl, hn, hc⟩ := h.val
    cases ao with
    | none => exact run_convert_bytes_nil w src e hs he 0 c dst hd
    | some a =>
      rw [run_convert_bytes_string w src dst e _ _ c hs he hd]
      simp [Conv.bytesToString, loadCells, loadCellsFrom]
      rfl
  · obtain ⟨g, off, c, rfl, hc⟩ := h.addr (by rw [byV_length]; exact h0)
    rw [byV_length]
    have := run_convert_bytes_arg (P := P) w src e hs he g off l.length c (l.map fun (n : Nat) => (n : Int)) (by simp) (fun i hi => by
      rw [hc i _ (byV_get (by simpa using hi))]
      simp [List.getD_eq_getElem?_getD, List.getElem?_eq_getElem hi]) dst hd
    exact this
theorem Tryd.infoU8 : (Tryd.prog.info? 5).map (fun i => (i.zero, i.size, i.bytes)) = some (some (.int .u8 0), 1, 1) := by kernel_rfl
end Go.Proofs.YtficodklidaheaaDoor
/- Rows of structs: of one shape each, of sz cells; those that came in, and those that are made. -/
namespace Go.Proofs.YtficodklidaheaaDoor
open Go.RowKit
attribute [local go_sem ↓] Go.wp_at_zero Go.wp_at_succ

def flatG {α : Type} (c : α → List Value) (L : List α) : List Value := L.flatMap c
/-- What a struct's cells are like. -/
structure Cf {α : Type} (c : α → List Value) (sz : Nat) : Prop where
  len : ∀ x, (c x).length = sz
  one : ∀ x, ∀ u ∈ c x, u.oneCell' = true
theorem flatG_length {α : Type} {c : α → List Value} {sz : Nat} (hc : Cf c sz) (L : List α) : (flatG c L).length = L.length * sz := by
  induction L with
  | nil => simp [flatG]
  | cons p L ih => unfold flatG at ih ⊢; rw [List.flatMap_cons, List.length_append, ih, hc.len, List.length_cons, Nat.succ_mul, Nat.add_comm]
theorem flatG_append {α : Type} (c : α → List Value) (a b : List α) : flatG c (a ++ b) = flatG c a ++ flatG c b := by simp [flatG]
theorem flatG_one' {α : Type} (c : α → List Value) (a : α) : flatG c [a] = c a := by simp [flatG]
theorem flatG_get {α : Type} {c : α → List Value} {sz : Nat} (hc : Cf c sz) {L : List α} {i : Nat} {p : α} (h : L[i]? = some p) {j : Nat} (hj : j < sz) : (flatG c L)[i * sz + j]? = (c p)[j]? := by
  induction L generalizing i with
  | nil => simp at h
  | cons q L ih =>
    unfold flatG at ih ⊢
    rw [List.flatMap_cons]
    have hq := hc.len q
    cases i with
    | zero =>
      simp at h; subst h
      rw [List.getElem?_append_left (by rw [hq]; omega)]; simp
    | succ i =>
      simp at h
      rw [Nat.succ_mul, List.getElem?_append_right (by rw [hq]; omega), hq, show i * sz + sz + j - sz = i * sz + j by omega]
      exact ih h
theorem flatG_all {α : Type} {c : α → List Value} {sz : Nat} (hc : Cf c sz) (L : List α) : ∀ u ∈ flatG c L, u.oneCell' = true := by
  intro u hu
  unfold flatG at hu
  obtain ⟨p, _, hp⟩ := List.mem_flatMap.1 hu
  exact hc.one p u hp
/-- Structs lie in a row. -/
def GAt {α : Type} (c : α → List Value) (sz : Nat) (w : World) (ao : Option Addr) (L : List α) : Prop := 0 < L.length → ∃ g o, ao = some ⟨g, o, none⟩ ∧ ∀ i p, L[i]? = some p → ∀ j u, (c p)[j]? = some u → w.cell? ⟨g, o + i * sz + j, none⟩ = some u
theorem GAt.keptS {α : Type} {c : α → List Value} {sz : Nat} {S : Nat → Prop} {W w : World} {ao : Option Addr} {L : List α} (h : GAt c sz W ao L) (k : Kept S W w) (hn : ∀ a, ao = some a → 0 < L.length → ¬ S a.block) : GAt c sz w ao L := by
  intro h0
  obtain ⟨g, o, e, hr⟩ := h h0
  exact ⟨g, o, e, fun i p hi j u hu => k.cell (hr i p hi j u hu) (show ¬ S g from hn ⟨g, o, none⟩ e h0)⟩
theorem GAt.kept {α : Type} {c : α → List Value} {sz : Nat} {W w : World} {ao : Option Addr} {L : List α} (h : GAt c sz W ao L) (k : Kept (fun _ => False) W w) : GAt c sz w ao L := h.keptS k (fun _ _ _ x => x)
theorem GAt.take {α : Type} {c : α → List Value} {sz : Nat} {W : World} {ao : Option Addr} {L : List α} (h : GAt c sz W ao L) (n : Nat) : GAt c sz W ao (L.take n) := by
  intro h0
  obtain ⟨g, o, e, hr⟩ := h (by rw [List.length_take] at h0; omega)
  refine ⟨g, o, e, fun i p hi => hr i p ?_⟩
  rw [List.getElem?_take] at hi
  split at hi
  · exact hi
  · cases hi
theorem GAt.src {α : Type} {c : α → List Value} {sz : Nat} (hc : Cf c sz) (hz : 0 < sz) {P : Program} {t e : TypeId} (ht : P.underlying t = some (.slice e)) {w : World} {ao : Option Addr} {L : List α} {cp : Nat} (h : GAt c sz w ao L) : Src P sz t (.slice ao L.length cp) L.length (flatG c L) w := by
  cases ao with
  | none =>
    have hz : L.length = 0 := by
      rcases Nat.eq_zero_or_pos L.length with h1 | h1
      · exact h1
      · obtain ⟨_, _, e, _⟩ := h h1; cases e
    obtain rfl : L = [] := List.length_eq_zero_iff.1 hz
    exact Src.ofNil (w := w) ht cp
  | some a =>
    refine Src.ofSlice _ ht a L.length cp (flatG c L) (flatG_length hc L) ?_ (flatG_all hc L)
    intro j u hu
    have hj : j < L.length * sz := by have := (List.getElem?_eq_some_iff.1 hu).1; rwa [flatG_length hc] at this
    have h0 : 0 < L.length := by
      rcases Nat.eq_zero_or_pos L.length with h1 | h1
      · rw [h1, Nat.zero_mul] at hj; omega
      · exact h1
    obtain ⟨g, o, e, hr⟩ := h h0
    cases e
    have hi : j / sz < L.length := Nat.div_lt_of_lt_mul (by rw [Nat.mul_comm]; exact hj)
    have hm : j % sz < sz := Nat.mod_lt _ hz
    have e2 : j / sz * sz + j % sz = j := by rw [Nat.mul_comm]; exact Nat.div_add_mod j sz
    have hg := flatG_get hc (List.getElem?_eq_getElem hi) hm
    rw [e2, hu] at hg
    have := hr (j / sz) L[j / sz] (List.getElem?_eq_getElem hi) (j % sz) u hg.symm
    have e : (⟨g, o, none⟩ : Addr).add j = ⟨g, o + j, none⟩ := by unfold Addr.add; split <;> simp_all
    rw [e, show o + j = o + j / sz * sz + j % sz by omega]
    exact this

/-- A row of structs that was made behind the world W. -/
structure MineG {α : Type} (c : α → List Value) (sz : Nat) (E : TypeId) (W w : World) (v : Value) (L : List α) : Prop where
  own : w.ownsRow W.heap.size E sz v L.length (flatG c L)
  kept : Kept (fun _ => False) W w
theorem MineG.nil {α : Type} {c : α → List Value} {sz : Nat} {E : TypeId} {W w : World} (k : Kept (fun _ => False) W w) : MineG c sz E W w (.slice none 0 0) [] := ⟨World.ownsRow_nil _ _ _ _, k⟩
theorem MineG.on {α : Type} {c : α → List Value} {sz : Nat} {E : TypeId} {W w w' : World} {v : Value} {L : List α} (h : MineG c sz E W w v L) (hk : Kept (fun _ => False) w w') : MineG c sz E W w' v L := ⟨hk.owns h.own (fun _ _ x => x), h.kept.trans hk⟩
theorem MineG.keptS {α : Type} {c : α → List Value} {sz : Nat} {E : TypeId} {S : Nat → Prop} {W w w' : World} {v : Value} {L : List α} (h : MineG c sz E W w v L) (hk : Kept S w w') (hn : ∀ k, v.ownBlock = some k → ¬ S k) (hs : ∀ k, S k → W.heap.size ≤ k) : MineG c sz E W w' v L := ⟨hk.owns h.own hn, h.kept.newer hk hs⟩
theorem MineG.down {α : Type} {c : α → List Value} {sz : Nat} {E : TypeId} {W0 W w : World} {v : Value} {L : List α} (h : MineG c sz E W w v L) (hk : Kept (fun _ => False) W0 W) : MineG c sz E W0 w v L := by
  refine ⟨⟨h.own.1, ?_⟩, hk.trans h.kept⟩
  rcases h.own.2 with h0 | ⟨g, cap, cur, e, hg, rest⟩
  · exact .inl h0
  · exact .inr ⟨g, cap, cur, e, Nat.le_trans hk.size hg, rest⟩
theorem MineG.slice {α : Type} {c : α → List Value} {sz : Nat} {E : TypeId} {W w : World} {v : Value} {L : List α} (h : MineG c sz E W w v L) : ∃ a cp, v = .slice a L.length cp := ownsRow_slice h.own
theorem MineG.at_ {α : Type} {c : α → List Value} {sz : Nat} (hcf : Cf c sz) {E : TypeId} {W w : World} {a : Option Addr} {n cp : Nat} {L : List α} (h : MineG c sz E W w (.slice a n cp) L) : GAt c sz w a L := by
  intro h0
  rcases h.own.2 with ⟨_, e⟩ | ⟨g, cap, cur, e, _⟩
  · omega
  · injection e with e1 e2 e3
    subst e1
    refine ⟨g, 0, rfl, fun i p hi j u hu => ?_⟩
    have hj : j < sz := by have := (List.getElem?_eq_some_iff.1 hu).1; rwa [hcf.len] at this
    have hc := h.own.cells (g := g) rfl
    have := hc (i * sz + j) u (by rw [flatG_get hcf hi hj]; exact hu)
    rw [addr_add0] at this
    rw [Nat.zero_add]; exact this
theorem src_oneG {α : Type} {c : α → List Value} {sz : Nat} (hc : Cf c sz) {P : Program} {t E : TypeId} (ht : P.underlying t = some (.slice E)) (w : World) (p : α) : Src P sz t (.slice (some ⟨w.heap.size, 0, none⟩) 1 1) 1 (c p) (w.alloc (.cells (c p).toArray E)) :=
  Src.ofSlice _ ht _ 1 1 (c p) (by rw [hc.len, Nat.one_mul]) (World.news_of_block (cs := (c p).toArray) (t := E) (fr := (0, 0)) (heap_alloc_new w _)) (hc.one p)
theorem wpList_mineG {α : Type} {c : α → List Value} {sz : Nat} {P : Program} {ops : Array Oper} {rest : List Oper} {o : Oper} {a : Act} {Q : Exit → Act → World → Prop} {w : World} (hgd : o.guard = none) (s x : Operand) {t E : TypeId}
    (ho : o.op = .call { callee := .builtin .append, args := #[s, x], argTypes := #[t, t] })
    (ht : P.underlying t = some (.slice E)) {i : TypeInfo} {z : Value} {by' : Nat} (hi : P.info? E = some i) (hz0 : i.zero = some z) (hz1 : i.size = sz) (hz2 : i.bytes = by') (hz3 : z.cells.size = sz)
    (W : World) (v : Value) (L : List α) (hv : a.eval s = v) (hm : MineG c sz E W w v L)
    (y : Value) (M : List α) (m : Nat) (hmm : M.length = m) (hy : a.eval x = y) (hs : Src P sz t y m (flatG c M) w)
    (hl : L.length + m ≤ 1000000000) (hby : by' ≤ 100000)
    (h : ∀ v' w', MineG c sz E W w' v' (L ++ M) → Kept (fun k => v.ownBlock = some k) w w' → (v'.ownBlock = v.ownBlock ∨ v'.ownBlock = some w.heap.size) → wpList P ops Q rest (a.put o.dst v') w') : wpList P ops Q (o :: rest) a w := by
  have hb : (L.length + m) * by' ≤ 1000000000 * 100000 := Nat.mul_le_mul hl hby
  refine wpList_append_src w hgd s x _ _ ho W.heap.size E i z sz by' ht hi hz0 hz1 hz2 hz3 v L.length (flatG c L) hv hm.own y m (flatG c M) hy hs (by unfold maxLen; omega) (by omega) hm.kept.size ?_
  intro v' w' hown hg _ hat
  refine h v' w' ⟨?_, ?_⟩ ((Kept.refl (fun k => v.ownBlock = some k) w).grown hg (fun k e _ => e)) hat
  · rw [List.length_append, flatG_append, hmm]
    exact hown
  · exact hm.kept.grown hg (fun k e hlt => by have := (ownsRow_lt hm.own e).2; omega)
end Go.Proofs.YtficodklidaheaaDoor
/- Layer 18: a disk in memory; isName, change, Down, Used, Calls, Fail, Crash, has, changeOf. -/
namespace Go.Proofs.YtficodklidaheaaDoor
open Go.RowKit
attribute [local go_sem ↓] Go.wp_at_zero Go.wp_at_succ

/-- A block of cells. -/
def BoxAt (w : World) (q : Nat) (T : TypeId) (cs : Array Value) : Prop := w.heap[q]? = some (.cells cs T (0, 0))
section
variable {w w' : World} {q : Nat} {T : TypeId} {cs : Array Value}
theorem BoxAt.cell (h : BoxAt w q T cs) {i : Nat} {u : Value} (hi : cs[i]? = some u) : w.cell? ⟨q, i, none⟩ = some u := (cell_of_row _ _ i _ _ _ h).trans hi
theorem BoxAt.fz (h : BoxAt w q T cs) (i : Nat) : w.frozen? ⟨q, i, none⟩ = false := by unfold BoxAt at h; simp [World.frozen?, h]
theorem BoxAt.lt (h : BoxAt w q T cs) : q < w.heap.size := (Array.getElem?_eq_some_iff.1 h).1
theorem BoxAt.set (h : BoxAt w q T cs) (i : Nat) (u : Value) : BoxAt (w.setCell ⟨q, i, none⟩ u) q T (cs.set! i u) := by
  unfold BoxAt at *
  simp [World.setCell, Array.getElem?_modify, h]
theorem BoxAt.kept {S : Nat → Prop} (h : BoxAt w q T cs) (k : Kept S w w') (hn : ¬ S q) : BoxAt w' q T cs := k.same h hn
theorem BoxAt.new (w : World) (T : TypeId) (cs : Array Value) : BoxAt (w.alloc (.cells cs T)) w.heap.size T cs := heap_alloc_new w _
theorem kept_set (w : World) (q i : Nat) (u : Value) : Kept (fun k => k = q) w (w.setCell ⟨q, i, none⟩ u) := (Kept.refl (fun k => k = q) w).setCell (p := ⟨q, i, none⟩) (fun _ => rfl) u
end

/-- A file in memory. -/
structure Fi where
  a : Option Addr
  c : Nat
  b : List Nat
  s : Nat
def Fi.v (f : Fi) : Value := .slice f.a f.b.length f.c
def Fi.val (f : Fi) : Value := .agg #[.slice f.a f.b.length f.c, .int .i64 (f.s : Int)]
def Fi.t (f : Fi) : PF := ⟨f.b, f.s⟩
/-- Where a file's bytes lie: in a block of its own, or nowhere. -/
def OwnB (base : Nat) (w : World) (f : Fi) : Prop :=
  (f.a = none ∧ f.b = [] ∧ f.c = 0) ∨ ∃ g cur, f.a = some ⟨g, 0, none⟩ ∧ base ≤ g ∧ w.heap[g]? = some (.cells cur 5 (0, 0)) ∧ f.b.length ≤ f.c ∧ f.c ≤ cur.size ∧ f.c ≤ maxLen ∧ cur.toList.take f.b.length = byV f.b
section
variable {base : Nat} {w w' : World} {f : Fi}
theorem OwnB.kept {S : Nat → Prop} (h : OwnB base w f) (k : Kept S w w') (hn : ∀ j, f.v.ownBlock = some j → ¬ S j) : OwnB base w' f := by
  rcases h with h | ⟨g, cur, h1, h2, h3, h4⟩
  · exact .inl h
  · exact .inr ⟨g, cur, h1, h2, k.same h3 (hn g (by unfold Fi.v; rw [h1]; rfl)), h4⟩
theorem OwnB.block (h : OwnB base w f) {j : Nat} (hj : f.v.ownBlock = some j) : ∃ cur, w.heap[j]? = some (.cells cur 5 (0, 0)) ∧ base ≤ j := by
  rcases h with ⟨h, _⟩ | ⟨g, cur, h1, h2, h3, _⟩
  · unfold Fi.v at hj; rw [h] at hj; cases hj
  · unfold Fi.v at hj
    rw [h1] at hj
    injection hj with hj
    subst hj
    exact ⟨cur, h3, h2⟩
theorem OwnB.cap (h : OwnB base w f) : f.b.length ≤ f.c ∧ f.c ≤ maxLen := by
  rcases h with ⟨_, h1, h2⟩ | ⟨g, cur, _, _, _, h4, _, h5, _⟩
  · rw [h1, h2]; exact ⟨Nat.le_refl _, Nat.zero_le _⟩
  · exact ⟨h4, h5⟩
theorem OwnB.at_ (h : OwnB base w f) : SlAt w f.v (byV f.b) := by
  rcases h with ⟨h1, h2, h3⟩ | ⟨g, cur, h1, h2, h3, h4, h5, h6, h7⟩
  · unfold Fi.v
    rw [h1, h2, h3]
    exact SlAt.ofOwn (World.ownsRow_nil w 0 5 1)
  · refine ⟨f.a, f.c, ?_, fun e => ?_, fun a' e j u hu => ?_⟩
    · unfold Fi.v; rw [byV_length]
    · rw [h1] at e; cases e
    rw [h1] at e
    injection e with e
    subst e
    rw [addr_add0, cell_of_row _ _ j _ _ _ h3]
    rw [← h7, List.getElem?_take] at hu
    split at hu
    · rw [← Array.getElem?_toList]; exact hu
    · cases hu
end
/-- The disk's cells. -/
def boxD (mb : Nat) (D : DA) : Array Value := #[.map (some mb), .int .i64 D.cap, .int .i64 (usedL D.L : Int), .bool D.down, .int .i64 D.calls, .int .i64 D.failIn, .int .i64 D.failBy, .int .i64 D.crashIn]
def foot (db mb : Nat) (L : List (ByteArray × Fi)) (k : Nat) : Prop := k = db ∨ k = mb ∨ ∃ p ∈ L, p.2.v.ownBlock = some k
/-- A disk in memory. -/
structure DK (base : Nat) (w : World) (db mb : Nat) (L : List (ByteArray × Fi)) (D : DA) : Prop where
  box : BoxAt w db 111 (boxD mb D)
  map : MapIs w mb (mapM Fi.val L)
  perm : (mapM Fi.t L).Perm D.L
  data : ∀ p ∈ L, OwnB base w p.2
  sep : ∀ p ∈ L, ∀ q ∈ L, p.1 ≠ q.1 → ∀ k, p.2.v.ownBlock = some k → q.2.v.ownBlock ≠ some k
  base : base ≤ db ∧ base ≤ mb
  ok : DOk D
section
variable {base : Nat} {w w' : World} {db mb : Nat} {L : List (ByteArray × Fi)} {D : DA}
theorem DK.pair (h : DK base w db mb L D) : L.Pairwise fun p q => p.1 ≠ q.1 := by
  have := h.map.pair
  unfold mapM at this
  rw [List.pairwise_map] at this
  exact this
theorem DK.get (h : DK base w db mb L D) (s : ByteArray) : (getM L s).map Fi.t = getM D.L s := by
  rw [← getM_map, get_of_perm (mapM_pair _ h.pair) h.perm]
theorem DK.len (h : DK base w db mb L D) : L.length = D.L.length := by
  have := h.perm.length_eq
  simpa [mapM] using this
theorem DK.kept {S : Nat → Prop} (h : DK base w db mb L D) (k : Kept S w w') (hn : ∀ j, foot db mb L j → ¬ S j) : DK base w' db mb L D :=
  ⟨h.box.kept k (hn db (.inl rfl)), h.map.kept k (hn mb (.inr (.inl rfl))), h.perm, fun p hp => (h.data p hp).kept k (fun j e => hn j (.inr (.inr ⟨p, hp, e⟩))), h.sep, h.base, h.ok⟩
theorem DK.lt (h : DK base w db mb L D) {k : Nat} (hk : foot db mb L k) : k < w.heap.size ∧ base ≤ k := by
  rcases hk with rfl | rfl | ⟨p, hp, e⟩
  · exact ⟨h.box.lt, h.base.1⟩
  · exact ⟨h.map.lt, h.base.2⟩
  · obtain ⟨cur, h1, h2⟩ := (h.data p hp).block e
    exact ⟨(Array.getElem?_eq_some_iff.1 h1).1, h2⟩
theorem DK.c (h : DK base w db mb L D) : w.cell? ⟨db, 0, none⟩ = some (.map (some mb)) ∧ w.cell? ⟨db, 1, none⟩ = some (.int .i64 D.cap) ∧ w.cell? ⟨db, 2, none⟩ = some (.int .i64 (usedL D.L : Int)) ∧ w.cell? ⟨db, 3, none⟩ = some (.bool D.down) ∧
    w.cell? ⟨db, 4, none⟩ = some (.int .i64 D.calls) ∧ w.cell? ⟨db, 5, none⟩ = some (.int .i64 D.failIn) ∧ w.cell? ⟨db, 6, none⟩ = some (.int .i64 D.failBy) ∧ w.cell? ⟨db, 7, none⟩ = some (.int .i64 D.crashIn) :=
  ⟨h.box.cell rfl, h.box.cell rfl, h.box.cell rfl, h.box.cell rfl, h.box.cell rfl, h.box.cell rfl, h.box.cell rfl, h.box.cell rfl⟩
theorem DK.ne (h : DK base w db mb L D) : db ≠ mb := h.map.notCells h.box
theorem DK.cap (h : DK base w db mb L D) : I64 D.cap ∧ I64 D.failIn ∧ I64 D.crashIn ∧ I64 (usedL D.L : Int) := by
  have h1 := h.ok.capR
  have h2 := h.ok.failR
  have h3 := h.ok.crashR
  have h4 := h.ok.used
  unfold I64
  omega
/-- Only the disk's own cells were written. -/
theorem DK.turned (h : DK base w db mb L D) {w' : World} {D' : DA} (hb : BoxAt w' db 111 (boxD mb D')) (k : Kept (fun k => k = db) w w') (hL : D'.L = D.L) (ok : DOk D') : DK base w' db mb L D' :=
  ⟨hb, h.map.kept k (fun e => h.ne e.symm), by rw [hL]; exact h.perm, fun p hp => (h.data p hp).kept k (fun j e x => by
    obtain ⟨cur, h1, _⟩ := (h.data p hp).block e
    have hb := h.box
    unfold BoxAt at hb
    rw [x, hb] at h1
    injection h1 with h1
    injection h1 with _ h1
    exact absurd h1 (by decide)), h.sep, h.base, ok⟩
end

set_option maxHeartbeats 1000000 in
theorem dDown_any (base db mb : Nat) (L : List (ByteArray × Fi)) (D : DA) (w : World) (h : DK base w db mb L D) :
    Calls Tryd.prog 33 #[.pointer (some ⟨db, 0, none⟩)] w fun e w' => e = .returned (.bool D.down) ∧ w = w' := by
  have c3 := h.c.2.2.2.1
  clear h
  go_enter Tryd.func33, Tryd.ntmps33
  go_wp2
  go_ret
  exact ⟨rfl, rfl⟩
set_option maxHeartbeats 1000000 in
theorem dCalls_any (base db mb : Nat) (L : List (ByteArray × Fi)) (D : DA) (w : World) (h : DK base w db mb L D) :
    Calls Tryd.prog 80 #[.pointer (some ⟨db, 0, none⟩)] w fun e w' => e = .returned (.int .i64 D.calls) ∧ w = w' := by
  have c3 := h.c.2.2.2.2.1
  clear h
  go_enter Tryd.func80, Tryd.ntmps80
  go_wp2
  go_ret
  exact ⟨rfl, rfl⟩
/-- What Used answers. -/
def usedA (D : DA) : Int := if D.down = true then 0 else (usedL D.L : Int)
set_option maxHeartbeats 1000000 in
theorem dUsed_any (base db mb : Nat) (L : List (ByteArray × Fi)) (D : DA) (w : World) (h : DK base w db mb L D) :
    Calls Tryd.prog 63 #[.pointer (some ⟨db, 0, none⟩)] w fun e w' => e = .returned (.int .i64 (usedA D)) ∧ w = w' := by
  have c2 := h.c.2.2.1
  have c3 := h.c.2.2.2.1
  clear h
  unfold usedA
  obtain ⟨u, hu⟩ : ∃ u, u = (usedL D.L : Int) := ⟨_, rfl⟩
  rw [← hu] at c2 ⊢
  clear hu
  cases hd : D.down
  · rw [hd] at c3
    clear hd
    go_enter Tryd.func63, Tryd.ntmps63
    go_wp2
    go_ret
    exact ⟨rfl, rfl⟩
  · rw [hd] at c3
    clear hd
    go_enter Tryd.func63, Tryd.ntmps63
    go_wp2
    go_ret
    exact ⟨rfl, rfl⟩
end Go.Proofs.YtficodklidaheaaDoor
