/- Texts put together for a seat that lacks some of the functions: Za Zb (tools/strip.py). -/
import Derived.WalkKit
import Derived.WalkLawsBesides
import Derived.WalkSpells
import Derived.Deep.AppendSrc
import Derived.Deep.AppendLies
import Derived.Test.YtiiibhdohlpodaaRows
import Derived.Outline
import Derived.Deep.RegionHeld3
import Derived.Deep.DrawnRows
import Derived.Lib.Hide
import Derived.Deep.RegionLaw
import Derived.Deep.DeepCutAuto
import Derived.Deep.LoopGhost
import Derived.Test.YtiiibhdohlpodaaShelf
import Derived.Deep.QuietTactic
import Derived.BigQuiet
import Derived.Lib.Strings
import Derived.Shelf.Small.Bits
import Derived.DataReads
import Derived.WideShapes
import Derived.ProofKit
import Derived.OpenShut
import Derived.Deep.Slices
import Derived.Deep.Fields
import Derived.ChangeSame
import Derived.Lib.ConvBytes
import Derived.Deep.RegionWith
import Derived.Deep.CutBlock
import Derived.Laws.Rows
import Derived.StillTailTactics
import Derived.Test.YtiiibhdohlpodaaProg
-- Za
-- L0
namespace Go.Proofs.Ytiiibhdohlpodaa
open Go.RowKit

theorem ret_int {k : IntKind} {a b : Int} (h : a = b) : Ending.returned (.int k a) = .returned (.int k b) := by rw [h]
theorem ret_bool {a b : Bool} (h : a = b) : Ending.returned (.bool a) = .returned (.bool b) := by rw [h]
theorem ret_str {a b : ByteArray} (h : a = b) : Ending.returned (.string a) = .returned (.string b) := by rw [h]

/-- The world w' is the world w with new blocks, and with writes to blocks of S alone. -/
structure Kept (S : Nat → Prop) (w w' : World) : Prop where
  os : w'.os = w.os
  tape : w'.tape = w.tape
  output : w'.output = w.output
  size : w.heap.size ≤ w'.heap.size
  block : ∀ k, k < w.heap.size → ¬ S k → w'.heap[k]? = w.heap[k]?

namespace Kept
variable {S S' : Nat → Prop} {a b c w w' : World}
theorem refl (S : Nat → Prop) (w : World) : Kept S w w := ⟨rfl, rfl, rfl, Nat.le_refl _, fun _ _ _ => rfl⟩
theorem trans (h : Kept S a b) (k : Kept S b c) : Kept S a c :=
  ⟨k.os.trans h.os, k.tape.trans h.tape, k.output.trans h.output, Nat.le_trans h.size k.size, fun i hi hn => (k.block i (Nat.lt_of_lt_of_le hi h.size) hn).trans (h.block i hi hn)⟩
theorem mono (h : Kept S a b) (hs : ∀ k, k < a.heap.size → S k → S' k) : Kept S' a b := ⟨h.os, h.tape, h.output, h.size, fun k hk hn => h.block k hk fun x => hn (hs k hk x)⟩
/-- One step behind another: what the second writes is in S', or it is a block that wasn't there. -/
theorem step (h : Kept S a b) (k : Kept S' b c) (hs : ∀ k, k < a.heap.size → S' k → S k) : Kept S a c :=
  ⟨k.os.trans h.os, k.tape.trans h.tape, k.output.trans h.output, Nat.le_trans h.size k.size, fun i hi hn => (k.block i (Nat.lt_of_lt_of_le hi h.size) fun x => hn (hs i hi x)).trans (h.block i hi hn)⟩
theorem alloc (h : Kept S a b) (o : Obj) : Kept S a (b.alloc o) := h.trans ⟨rfl, rfl, rfl, by simp, fun k hk _ => Below.heap_alloc _ _ _ hk⟩
theorem drew (h : Kept S a b) : Kept S a b.drew := ⟨h.os, h.tape, h.output, h.size, h.block⟩
theorem drewN (h : Kept S a b) (n : Nat) : Kept S a (b.drewN n) := ⟨h.os, h.tape, h.output, h.size, h.block⟩
theorem setCell (h : Kept S a b) {p : Addr} (hp : p.block < a.heap.size → S p.block) (u : Value) : Kept S a (b.setCell p u) :=
  ⟨h.os, h.tape, h.output, by simpa [World.setCell] using h.size, fun k hk hn => by
    rw [Below.heap_setCell _ _ _ _ (by intro e; subst e; exact hn (hp hk))]; exact h.block k hk hn⟩
theorem grown {row : Option Nat} (h : Kept S a b) (hg : b.grownBy c row) (hr : ∀ k, row = some k → k < a.heap.size → S k) : Kept S a c :=
  h.step (S' := fun k => some k = row) ⟨hg.os, hg.tape, hg.output, hg.size, fun k hk hn => hg.block k hk hn⟩ (fun k hk hS => hr k hS.symm hk)
theorem ofBelow {B : Nat} (h : Below B a b) : Kept (fun k => B ≤ k) a b := ⟨h.os, h.tape, h.output, h.size, fun k _ hn => h.block k (by omega)⟩
theorem below {B : Nat} (h : Kept S a b) (hB : B ≤ a.heap.size) (hs : ∀ k, S k → B ≤ k) : Below B a b :=
  ⟨h.os, h.tape, h.output, h.size, fun k hk => h.block k (by omega) fun x => by have := hs k x; omega⟩
theorem same (h : Kept S a b) {p : Nat} {o : Obj} (hp : a.heap[p]? = some o) (hn : ¬ S p) : b.heap[p]? = some o := by
  rw [h.block p (Array.getElem?_eq_some_iff.1 hp).1 hn]; exact hp
theorem cell (h : Kept S a b) {p : Addr} {v : Value} (hp : a.cell? p = some v) (hn : ¬ S p.block) : b.cell? p = some v :=
  (World.cell?_of_block (h.block p.block (World.block_lt_of_cell? a p hp) hn)).trans hp
theorem owns (h : Kept S a b) {base : Nat} {e : TypeId} {size : Nat} {v : Value} {n : Nat} {xs : List Value} (ho : a.ownsRow base e size v n xs) (hn : ∀ k, v.ownBlock = some k → ¬ S k) : b.ownsRow base e size v n xs := by
  refine ⟨ho.1, ?_⟩
  rcases ho.2 with h0 | ⟨g, cap, cur, rfl, hb, hgg, rest⟩
  · exact .inl h0
  · exact .inr ⟨g, cap, cur, rfl, hb, h.same hgg (hn g rfl), rest⟩
end Kept

/-- A slice that owns its row lies in a block that is there. -/
theorem ownsRow_lt {w : World} {base : Nat} {e : TypeId} {size : Nat} {v : Value} {n : Nat} {xs : List Value} (ho : w.ownsRow base e size v n xs) {k : Nat} (hk : v.ownBlock = some k) : k < w.heap.size ∧ base ≤ k := by
  rcases ho.2 with ⟨rfl, _⟩ | ⟨g, cap, cur, rfl, hb, hgg, _⟩
  · cases hk
  · simp [Value.ownBlock] at hk; subst hk
    exact ⟨(Array.getElem?_eq_some_iff.1 hgg).1, hb⟩

/-- Its block holds cells of the element's type. -/
theorem ownsRow_block {w : World} {base : Nat} {e : TypeId} {size : Nat} {v : Value} {n : Nat} {xs : List Value} (ho : w.ownsRow base e size v n xs) {k : Nat} (hk : v.ownBlock = some k) : ∃ cur, w.heap[k]? = some (.cells cur e (0, 0)) := by
  rcases ho.2 with ⟨rfl, _⟩ | ⟨g, cap, cur, rfl, hb, hgg, _⟩
  · cases hk
  · simp [Value.ownBlock] at hk; subst hk
    exact ⟨cur, hgg⟩

/-- What a slice looks like that owns something, or nothing. -/
theorem ownsRow_slice {w : World} {base : Nat} {e : TypeId} {size : Nat} {v : Value} {n : Nat} {xs : List Value} (ho : w.ownsRow base e size v n xs) : ∃ a cap, v = .slice a n cap := by
  rcases ho.2 with ⟨rfl, rfl⟩ | ⟨g, cap, cur, rfl, _⟩
  · exact ⟨none, 0, rfl⟩
  · exact ⟨_, cap, rfl⟩

section
variable {P : Program} (w : World)

/-- One element that was laid in a block of its own to be appended. -/
theorem src_one {tx e : TypeId} (hk : P.underlying tx = some (.slice e)) (u : Value) (hu : u.oneCell' = true) :
    Src P 1 tx (.slice (some ⟨w.heap.size, 0, none⟩) 1 1) 1 [u] (w.alloc (.cells #[u] e)) :=
  Src.ofSlice _ hk _ 1 1 [u] rfl (World.news_of_block (cs := #[u]) (t := e) (fr := (0, 0)) (heap_alloc_new w _)) (by simpa using hu)
theorem Src.drawn {size : Nat} {tx : TypeId} {x : Value} {n : Nat} {news : List Value} (h : Src P size tx x n news w) (hx : ∀ a k c, x = .slice (some a) k c → ∀ j u, news[j]? = some u → w.cell? (a.add j) = some u) : Src P size tx x n news w.drew := by
  refine ⟨h.kind, h.len, h.cellsD, ?_, h.newsLen, h.one⟩
  have hn : (Builtin.lenOf x).run P w = .ok n w := h.len w
  have h2 := h.cellsD
  cases x with
  | slice a k c =>
    have hk : k = n := by simpa [Builtin.lenOf] using hn
    subst hk
    cases a with
    | none => simpa [Builtin.firstCells] using h2
    | some a => exact run_firstCells_some w.drew.drew size k a k c news h.newsLen (by simpa using hx a k c rfl)
  | string s => simpa [Builtin.firstCells] using h2
  | _ => simp [Builtin.lenOf] at hn
theorem src_one_drew {tx e : TypeId} (hk : P.underlying tx = some (.slice e)) (u : Value) (hu : u.oneCell' = true) :
    Src P 1 tx (.slice (some ⟨w.heap.size, 0, none⟩) 1 1) 1 [u] (w.alloc (.cells #[u] e)).drew :=
  Src.ofSlice _ hk _ 1 1 [u] rfl (World.news_of_block (cs := #[u]) (t := e) (fr := (0, 0)) (heap_alloc_new w _)) (by simpa using hu)

/-- A slice that owns its row, as what is appended. -/
theorem ownsRow.src {w : World} {base : Nat} {e : TypeId} {v : Value} {n : Nat} {xs : List Value} (ho : w.ownsRow base e 1 v n xs) {t e' : TypeId} (hk : P.underlying t = some (.slice e')) (h1 : ∀ u ∈ xs, u.oneCell' = true) :
    Src P 1 t v n xs w := by
  obtain ⟨a, cap, rfl⟩ := ownsRow_slice ho
  cases a with
  | none =>
    rcases ho.2 with ⟨_, rfl⟩ | ⟨g, cap, cur, e, _⟩
    · have : xs = [] := List.eq_nil_of_length_eq_zero (by simpa using ho.1)
      subst this
      exact Src.ofNil _ hk _
    · cases e
  | some a =>
    rcases ho.2 with ⟨e, _⟩ | ⟨g, cap', cur, e, _⟩
    · cases e
    · injection e with e1 e2 e3
      injection e1 with e1
      subst e1
      exact Src.ofSlice _ hk _ n cap xs ho.1 (ho.cells rfl) h1

theorem run_append_room_any (t tx ty e : TypeId) (i : TypeInfo) (ht : P.underlying t = some (.slice e)) (hi : P.info? e = some i)
    (g sLen sCap : Nat) (cur : Array Value) (hg : w.heap[g]? = some (.cells cur e (0, 0)))
    (x : Value) (m : Nat) (news : List Value) (hs : Src P i.size tx x m news w)
    (hroom : sLen + m ≤ sCap) (hfit : sLen * i.size + news.length ≤ cur.size) :
    (Builtin.append_ #[t, tx] ty #[.slice (some ⟨g, 0, none⟩) sLen sCap, x]).run P w =
      .ok (.slice (some ⟨g, 0, none⟩) (sLen + m) sCap) (w.setRow g (cur.toList.take (sLen * i.size) ++ news ++ cur.toList.drop (sLen * i.size + news.length)).toArray) := by
  have hst := run_storeCells_at P g (sLen * i.size) e news 0 cur w hg (by simpa using hfit) hs.one
  simp only [Nat.add_zero] at hst
  rcases hs.kind with ⟨e', hk⟩ | hk <;>
    simp [Builtin.append_, run_underlying ht, run_underlying hk, sizeOf, typeInfo, hi, hs.len, hroom, hs.cells, Addr.add_lit, hst]

theorem run_append_own_src (base : Nat) (t tx ty e : TypeId) (i : TypeInfo) (z : Value) (size bytes : Nat) (ht : P.underlying t = some (.slice e)) (hi : P.info? e = some i) (hz : i.zero = some z)
    (hsize : i.size = size) (hby : i.bytes = bytes) (hzs : z.cells.size = size)
    (v : Value) (n : Nat) (xs : List Value) (hown : w.ownsRow base e size v n xs)
    (x : Value) (m : Nat) (news : List Value) (hs : Src P size tx x m news w)
    (h63 : n + m ≤ maxLen) (hbytes : (n + m) * bytes ≤ 140737488355328) (hbase : base ≤ w.heap.size) :
    ∃ v' w', (Builtin.append_ #[t, tx] ty #[v, x]).run P w = .ok v' w' ∧ w'.ownsRow base e size v' (n + m) (xs ++ news) ∧ w.grownBy w' v.ownBlock ∧
      (v' = .slice none 0 0 ↔ v = .slice none 0 0 ∧ m = 0) ∧ (v'.ownBlock = v.ownBlock ∨ v'.ownBlock = some w.heap.size) := by
  subst hsize
  subst hby
  have hsmall : n + m ≤ 9223372036854775807 := by simp only [maxLen] at h63; omega
  have hl := hs.newsLen
  have hlen : (xs ++ news).length = (n + m) * i.size := by rw [List.length_append, hown.1, hl, Nat.add_mul]
  have grown : ∀ (old : Nat), old < n + m → ∀ (row : Option Nat),
      (w.drew.alloc (.cells ((xs ++ news).toArray ++ Builtin.zeroCells z.cells (grownCap w (n + m) old e - (n + m))) e)).ownsRow base e i.size
        (.slice (some ⟨w.heap.size, 0, none⟩) (n + m) (grownCap w (n + m) old e)) (n + m) (xs ++ news) ∧
      w.grownBy (w.drew.alloc (.cells ((xs ++ news).toArray ++ Builtin.zeroCells z.cells (grownCap w (n + m) old e - (n + m))) e)) row := by
    intro old ho row
    have hge := grownCap_ge w (n + m) old e
    have hcm : grownCap w (n + m) old e ≤ maxLen := grownCap_le_maxLen w (n + m) old e h63
    refine ⟨⟨hlen, .inr ⟨w.heap.size, _, _, rfl, hbase, heap_alloc_new w.drew _, hge, hcm, ?_, ?_⟩⟩, ⟨rfl, rfl, rfl, by simp, fun k hk _ => Below.heap_alloc w.drew _ k hk⟩⟩
    · simp only [Array.size_append, List.size_toArray, size_zeroCells, hzs, hlen, ← Nat.add_mul]
      congr 1
      omega
    · rw [← hlen, Array.toList_append]
      exact List.take_left
  rcases hown.2 with ⟨rfl, rfl⟩ | ⟨g, cap, cur, rfl, hbg, hg, hnc, hcm, hcs, htake⟩
  · have hx : xs = [] := List.eq_nil_of_length_eq_zero (by simpa using hown.1)
    subst hx
    by_cases hm : m = 0
    · subst hm
      have hn : news = [] := List.eq_nil_of_length_eq_zero (by simpa using hl)
      subst hn
      refine ⟨.slice none 0 0, w, ?_, World.ownsRow_nil w base e i.size, ⟨rfl, rfl, rfl, Nat.le_refl _, fun _ _ _ => rfl⟩, by simp, Or.inl rfl⟩
      rcases hs.kind with ⟨e', hk⟩ | hk <;>
        simp [Builtin.append_, run_underlying ht, run_underlying hk, sizeOf, typeInfo, hi, hs.len, hs.cells]
    · have hr := run_append_grow_src (P := P) w t tx ty e i z ht hi hz none 0 0 [] (by simp [Builtin.firstCells]) x m news hs (by omega) (by omega) (growslice_fits (by omega) hbytes)
      have hgr := grown 0 (by omega) (Value.ownBlock (.slice none 0 0))
      exact ⟨_, _, hr, hgr.1, hgr.2, by simp [hm], Or.inr rfl⟩
  · by_cases hroom : n + m ≤ cap
    · have hfit : n * i.size + news.length ≤ cur.size := by rw [hl, hcs, ← Nat.add_mul]; exact Nat.mul_le_mul_right _ hroom
      have hr := run_append_room_any (P := P) w t tx ty e i ht hi g n cap cur hg x m news hs hroom hfit
      refine ⟨_, _, hr, ⟨hlen, .inr ⟨g, cap, _, rfl, hbg, setRow_heap w g cur _ e _ hg, hroom, hcm, ?_, ?_⟩⟩, ⟨rfl, rfl, rfl, by simp, fun k _ hk => setRow_other w g k _ (fun e => hk (by simp [Value.ownBlock, e]))⟩, by simp, Or.inl rfl⟩
      · simp only [List.size_toArray, List.length_append, List.length_take, List.length_drop, Array.length_toList]
        omega
      · rw [htake, ← hlen]
        exact List.take_left
    · have holds : ∀ j u, xs[j]? = some u → w.cell? ((⟨g, 0, none⟩ : Addr).add j) = some u := hown.cells (g := g) rfl
      have hold : (Builtin.firstCells i.size n (.slice (some ⟨g, 0, none⟩) n cap)).run P w.drew = .ok xs.toArray w.drew :=
        run_firstCells_some w.drew i.size n ⟨g, 0, none⟩ n cap xs hown.1 (by simpa using holds)
      have hr := run_append_grow_src (P := P) w t tx ty e i z ht hi hz (some ⟨g, 0, none⟩) n cap xs hold x m news hs (by omega) (by omega) (growslice_fits (by omega) hbytes)
      have hgr := grown cap (by omega) (Value.ownBlock (.slice (some ⟨g, 0, none⟩) n cap))
      exact ⟨_, _, hr, hgr.1, hgr.2, by simp, Or.inr rfl⟩

/-- At the operation. -/
theorem wp_append_src {o : Oper} {a : Act} {K : Act → World → Prop} {Q : Exit → Act → World → Prop} (s x : Operand) (t tx : TypeId)
    (ho : o.op = .call { callee := .builtin .append, args := #[s, x], argTypes := #[t, tx] })
    (base : Nat) (e : TypeId) (i : TypeInfo) (z : Value) (size bytes : Nat) (ht : P.underlying t = some (.slice e)) (hi : P.info? e = some i) (hz : i.zero = some z)
    (hsize : i.size = size) (hby : i.bytes = bytes) (hzs : z.cells.size = size)
    (v : Value) (n : Nat) (xs : List Value) (hv : a.eval s = v) (hown : w.ownsRow base e size v n xs)
    (y : Value) (m : Nat) (news : List Value) (hy : a.eval x = y) (hs : Src P size tx y m news w)
    (h63 : n + m ≤ maxLen) (hbytes : (n + m) * bytes ≤ 140737488355328) (hbase : base ≤ w.heap.size)
    (h : ∀ v' w', w'.ownsRow base e size v' (n + m) (xs ++ news) → w.grownBy w' v.ownBlock → (v' = .slice none 0 0 ↔ v = .slice none 0 0 ∧ m = 0) → (v'.ownBlock = v.ownBlock ∨ v'.ownBlock = some w.heap.size) → K (a.put o.dst v') w') : o.wp P a w K Q := by
  obtain ⟨v', w', hr, h2, h3, h4, h5⟩ := run_append_own_src (P := P) w base t tx o.type e i z size bytes ht hi hz hsize hby hzs v n xs hown y m news hs h63 hbytes hbase
  unfold Oper.wp execOp
  simp only [ho, resolve, invoke, builtin, Sem.run_bind, Sem.run_pure, Result.andThen_ok, List.map_toArray, List.map_cons, List.map_nil, hv, hy, hr]
  exact h v' w' h2 h3 h4 h5

/-- At a plain region's list. -/
theorem wpList_append_src {ops : Array Oper} {rest : List Oper} {o : Oper} {a : Act} {Q : Exit → Act → World → Prop} (hgd : o.guard = none) (s x : Operand) (t tx : TypeId)
    (ho : o.op = .call { callee := .builtin .append, args := #[s, x], argTypes := #[t, tx] })
    (base : Nat) (e : TypeId) (i : TypeInfo) (z : Value) (size bytes : Nat) (ht : P.underlying t = some (.slice e)) (hi : P.info? e = some i) (hz : i.zero = some z)
    (hsize : i.size = size) (hby : i.bytes = bytes) (hzs : z.cells.size = size)
    (v : Value) (n : Nat) (xs : List Value) (hv : a.eval s = v) (hown : w.ownsRow base e size v n xs)
    (y : Value) (m : Nat) (news : List Value) (hy : a.eval x = y) (hs : Src P size tx y m news w)
    (h63 : n + m ≤ maxLen) (hbytes : (n + m) * bytes ≤ 140737488355328) (hbase : base ≤ w.heap.size)
    (h : ∀ v' w', w'.ownsRow base e size v' (n + m) (xs ++ news) → w.grownBy w' v.ownBlock → (v' = .slice none 0 0 ↔ v = .slice none 0 0 ∧ m = 0) → (v'.ownBlock = v.ownBlock ∨ v'.ownBlock = some w.heap.size) → wpList P ops Q rest (a.put o.dst v') w') : wpList P ops Q (o :: rest) a w :=
  wpList_plain hgd fun _ hK => wp_append_src w s x t tx ho base e i z size bytes ht hi hz hsize hby hzs v n xs hv hown y m news hy hs h63 hbytes hbase fun v' w' h2 h3 h4 h5 => hK _ _ (h v' w' h2 h3 h4 h5)

/-- At a step of a region that draws its order. -/
theorem step_append_src {ops : Array Oper} {o : Oper} {a : Act} {K : Act → World → Prop} {Q : Exit → Act → World → Prop} {E : Prop} (hgd : o.guard = none) (s x : Operand) (t tx : TypeId)
    (ho : o.op = .call { callee := .builtin .append, args := #[s, x], argTypes := #[t, tx] })
    (base : Nat) (e : TypeId) (i : TypeInfo) (z : Value) (size bytes : Nat) (ht : P.underlying t = some (.slice e)) (hi : P.info? e = some i) (hz : i.zero = some z)
    (hsize : i.size = size) (hby : i.bytes = bytes) (hzs : z.cells.size = size)
    (v : Value) (n : Nat) (xs : List Value) (hv : a.eval s = v) (hown : w.ownsRow base e size v n xs)
    (y : Value) (m : Nat) (news : List Value) (hy : a.eval x = y) (hs : Src P size tx y m news w)
    (h63 : n + m ≤ maxLen) (hbytes : (n + m) * bytes ≤ 140737488355328) (hbase : base ≤ w.heap.size)
    (h : ∀ v' w', w'.ownsRow base e size v' (n + m) (xs ++ news) → w.grownBy w' v.ownBlock → (v' = .slice none 0 0 ↔ v = .slice none 0 0 ∧ m = 0) → (v'.ownBlock = v.ownBlock ∨ v'.ownBlock = some w.heap.size) → K (a.put o.dst v') w') :
    if Region.wanted o (yielded ops a.tmps) = true then Oper.wp P o a w K Q else E := by
  have hw : Region.wanted o (yielded ops a.tmps) = true := by simp [Region.wanted, hgd]
  rw [if_pos hw]
  exact wp_append_src w s x t tx ho base e i z size bytes ht hi hz hsize hby hzs v n xs hv hown y m news hy hs h63 hbytes hbase h
end
end Go.Proofs.Ytiiibhdohlpodaa

-- L1
namespace Go.Proofs.Ytiiibhdohlpodaa
open Go.RowKit

/-- A signed number as one that isn't. -/
def zigI (a : Int) : Int := if 0 ≤ a then 2 * a else -2 * a - 1
/-- And turned back. -/
def zagI (v : Int) : Int := if v % 2 = 0 then v / 2 else -(v / 2) - 1

theorem zigI_range (a : Int) (h0 : -9223372036854775808 ≤ a) (h1 : a ≤ 9223372036854775807) : 0 ≤ zigI a ∧ zigI a ≤ 18446744073709551615 := by
  unfold zigI; split <;> omega
theorem zagI_range (v : Int) (h0 : 0 ≤ v) (h1 : v ≤ 18446744073709551615) : -9223372036854775808 ≤ zagI v ∧ zagI v ≤ 9223372036854775807 := by
  unfold zagI; split <;> omega
theorem zag_zig (a : Int) : zagI (zigI a) = a := by
  unfold zagI zigI; split <;> split <;> omega
theorem zig_zag (v : Int) (h0 : 0 ≤ v) : zigI (zagI v) = v := by
  unfold zagI zigI; split <;> split <;> omega
theorem zig_inj (a b : Int) (h : zigI a = zigI b) : a = b := by
  rw [← zag_zig a, h, zag_zig]

theorem wrap_u64_of (x : Int) (h0 : 0 ≤ x) (h1 : x ≤ 18446744073709551615) : IntKind.u64.wrap x = x := by
  rw [IntKind.wrap_u64]; omega

theorem xor_u64_none (x : Int) (h0 : 0 ≤ x) (h1 : x ≤ 18446744073709551615) : bits .xor .u64 x 0 = x := by
  have h := u64_xor x 0 h0 (by omega) (by omega) (by omega)
  rw [h]; simp; omega

theorem xor_u64_all (x : Int) (h0 : 0 ≤ x) (h1 : x ≤ 18446744073709551615) : bits .xor .u64 x 18446744073709551615 = 18446744073709551615 - x := by
  obtain ⟨n, rfl⟩ : ∃ n : Nat, x = n := ⟨x.toNat, by omega⟩
  have hn : n < 2 ^ 64 := by omega
  have h := u64_xor_nat n 18446744073709551615 (by omega) (by omega)
  have e : n ^^^ 18446744073709551615 = 18446744073709551615 - n := by
    have b := congrArg BitVec.toNat (BitVec.xor_allOnes (x := BitVec.ofNat 64 n))
    simpa [BitVec.toNat_xor, BitVec.toNat_allOnes, BitVec.toNat_not, Nat.mod_eq_of_lt hn] using b
  have h' := h
  rw [e] at h'
  have : ((18446744073709551615 - n : Nat) : Int) = 18446744073709551615 - (n : Int) := by omega
  rw [this] at h'
  exact h'

/-- What Zig's shifts and exclusive or come to. -/
theorem zig_bits (a : Int) (h0 : -9223372036854775808 ≤ a) (h1 : a ≤ 9223372036854775807) :
    bits .xor .u64 (IntKind.u64.wrap (IntKind.u64.wrap a * 2)) (IntKind.u64.wrap (a / 9223372036854775808)) = zigI a := by
  simp only [IntKind.wrap_u64]
  by_cases h : 0 ≤ a
  · have e : (a / 9223372036854775808) % 18446744073709551616 = 0 := by omega
    have e2 : a % 18446744073709551616 * 2 % 18446744073709551616 = 2 * a := by omega
    rw [e, e2, xor_u64_none _ (by omega) (by omega)]
    unfold zigI; rw [if_pos h]
  · have e : (a / 9223372036854775808) % 18446744073709551616 = 18446744073709551615 := by omega
    have e2 : a % 18446744073709551616 * 2 % 18446744073709551616 = 18446744073709551616 + 2 * a := by omega
    rw [e, e2, xor_u64_all _ (by omega) (by omega)]
    unfold zigI; rw [if_neg h]; omega
end Go.Proofs.Ytiiibhdohlpodaa
namespace Go.Proofs.Ytiiibhdohlpodaa
open Go.RowKit
theorem xor_i64_eq (x y : Int) : bits .xor .i64 x y = IntKind.i64.wrap ((BitVec.ofInt 64 x ^^^ BitVec.ofInt 64 y).toNat : Int) := rfl
theorem wrap_i64_ofInt (x : Int) (h0 : -9223372036854775808 ≤ x) (h1 : x ≤ 9223372036854775807) : IntKind.i64.wrap ((BitVec.ofInt 64 x).toNat : Int) = x := by
  rw [BitVec.toNat_ofInt]
  simp [IntKind.bits, IntKind.wrap, IntKind.signed]
  omega
theorem xor_i64_none (x : Int) (h0 : -9223372036854775808 ≤ x) (h1 : x ≤ 9223372036854775807) : bits .xor .i64 x 0 = x := by
  have h : (BitVec.ofInt 64 x ^^^ BitVec.ofInt 64 0) = BitVec.ofInt 64 x := by simp
  rw [xor_i64_eq, h, wrap_i64_ofInt x h0 h1]
theorem xor_i64_all (x : Int) (h0 : -9223372036854775808 ≤ x) (h1 : x ≤ 9223372036854775807) : bits .xor .i64 x (-1) = -1 - x := by
  have h : (BitVec.ofInt 64 x ^^^ BitVec.ofInt 64 (-1)) = ~~~ BitVec.ofInt 64 x := by
    have : BitVec.ofInt 64 (-1) = BitVec.allOnes 64 := by decide
    rw [this, BitVec.xor_allOnes]
  rw [xor_i64_eq, h, BitVec.toNat_not, BitVec.toNat_ofInt]
  simp [IntKind.bits, IntKind.wrap, IntKind.signed]
  omega
theorem and1_u64 (v : Int) (h0 : 0 ≤ v) (h1 : v ≤ 18446744073709551615) : bits .and .u64 v 1 = v % 2 := by
  rw [u64_and v 1 h0 (by omega) (by omega) (by omega)]
  have := nat_mask1 v.toNat
  simp only [Int.toNat_one] at *
  rw [this]; omega

/-- How many bytes a number's form has behind the first one. -/
def oth (v : Int) : Nat :=
  if v < 128 then 0 else if v < 16384 then 1 else if v < 2097152 then 2 else if v < 268435456 then 3 else if v < 34359738368 then 4 else if v < 4398046511104 then 5 else if v < 562949953421312 then 6 else if v < 72057594037927936 then 7 else 8
theorem oth_le (v : Int) : oth v ≤ 8 := by unfold oth; (repeat' split) <;> omega
theorem oth_more (v : Int) (k : Nat) (_h0 : 0 ≤ v) (h : k < oth v) : ((2 ^ (7 + 7 * k) : Nat) : Int) ≤ v := by
  unfold oth at h
  have : k = 0 ∨ k = 1 ∨ k = 2 ∨ k = 3 ∨ k = 4 ∨ k = 5 ∨ k = 6 ∨ k = 7 := by (repeat' split at h) <;> omega
  rcases this with rfl | rfl | rfl | rfl | rfl | rfl | rfl | rfl <;> simp <;> (repeat' split at h) <;> omega
end Go.Proofs.Ytiiibhdohlpodaa
namespace Go.Proofs.Ytiiibhdohlpodaa
open Go.RowKit
theorem oth_end (v : Int) (k : Nat) (h : oth v = k) (hk : k < 8) : v < ((2 ^ (7 + 7 * k) : Nat) : Int) := by
  subst h
  unfold oth at *
  (repeat' split) <;> simp_all <;> omega
/-- What Zag's shifts and exclusive or come to. -/
theorem zag_bits (v : Int) (h0 : 0 ≤ v) (h1 : v ≤ 18446744073709551615) : bits .xor .i64 (v / 2) (wrap64 (-wrap64 (bits .and .u64 v 1))) = zagI v := by
  have e1 : wrap64 (bits .and .u64 v 1) = v % 2 := by rw [and1_u64 v h0 h1]; unfold wrap64; omega
  have e2 : wrap64 (-(v % 2)) = -(v % 2) := by unfold wrap64; omega
  rw [e1, e2]
  unfold zagI
  by_cases h : v % 2 = 0
  · rw [h, if_pos rfl]; exact xor_i64_none _ (by omega) (by omega)
  · have e : v % 2 = 1 := by omega
    rw [e, if_neg (by omega), xor_i64_all _ (by omega) (by omega)]; omega
end Go.Proofs.Ytiiibhdohlpodaa
namespace Go.Proofs.Ytiiibhdohlpodaa
open Go.RowKit
/-- The byte at place j from the low end. -/
def byteI (v : Int) (j : Nat) : Int := v / ((256 ^ j : Nat) : Int) % 256
/-- The first byte of a number's form: k bits set, one not, and the number's top bits. -/
def firstB (v : Int) (k : Nat) : Int := 256 - ((2 ^ (8 - k) : Nat) : Int) + v / ((256 ^ k : Nat) : Int)
/-- What stands behind the first byte: j of k bytes, the highest first. -/
def restB (v : Int) (k j : Nat) : List Int := (List.range j).map fun i => byteI v (k - 1 - i)
/-- A number's form. -/
def numB (v : Int) : List Int := firstB v (oth v) :: restB v (oth v) (oth v)
theorem restB_succ (v : Int) (k j : Nat) : restB v k (j + 1) = restB v k j ++ [byteI v (k - 1 - j)] := by
  unfold restB; rw [List.range_succ, List.map_append]; rfl
theorem restB_length (v : Int) (k j : Nat) : (restB v k j).length = j := by simp [restB]
theorem numB_length (v : Int) : (numB v).length = 1 + oth v := by simp [numB, restB]; omega
theorem byte_shift (v : Int) (s : Int) (j : Nat) (h : s = 8 * (j : Int)) : IntKind.u8.wrap (v / 2 ^ s.toNat) = byteI v j := by
  subst h
  rw [IntKind.wrap_u8]
  unfold byteI
  have e : (8 * (j : Int)).toNat = 8 * j := by omega
  have e2 : ((256 ^ j : Nat) : Int) = 2 ^ (8 * j) := by
    rw [show (256 : Nat) = 2 ^ 8 from rfl, ← Nat.pow_mul]; simp
  rw [e, e2]
theorem or_u8_join (a b : Int) (s : Nat) (ha : 0 ≤ a) (ha' : a < 256) (hm : a % ((2 ^ s : Nat) : Int) = 0) (hb : 0 ≤ b) (hb' : b < ((2 ^ s : Nat) : Int)) (hb'' : b < 256) : bits .or .u8 a b = a + b := by
  rw [u8_or a b ha ha' hb hb'']
  obtain ⟨n, rfl⟩ : ∃ n : Nat, a = n := ⟨a.toNat, by omega⟩
  obtain ⟨m, rfl⟩ : ∃ m : Nat, b = m := ⟨b.toNat, by omega⟩
  have hm' : n % 2 ^ s = 0 := by
    have h : ((n % 2 ^ s : Nat) : Int) = 0 := by rw [Int.natCast_emod]; exact hm
    exact Int.natCast_eq_zero.mp h
  have hb3 : m < 2 ^ s := Int.ofNat_lt.mp hb'
  have h := nat_join s n m hm' hb3
  rw [Int.toNat_natCast, Int.toNat_natCast, h, Int.natCast_add]
theorem first_bits (x : Int) (h0 : 0 ≤ x) (h1 : x ≤ 18446744073709551615) :
    bits .or .u8 (bits .xor .u8 IntKind.u8.max (255 / 2 ^ oth x)) (IntKind.u8.wrap (x / 2 ^ (8 * (oth x : Int)).toNat)) = firstB x (oth x) := by
  rw [byte_shift x _ (oth x) rfl]
  have hk := oth_le x
  have he : ∀ k, oth x = k → bits .or .u8 (bits .xor .u8 IntKind.u8.max (255 / 2 ^ k)) (byteI x k) = firstB x k := by
    intro k hk'
    have hs := fun h => oth_end x k hk' h
    obtain rfl | rfl | rfl | rfl | rfl | rfl | rfl | rfl | rfl : k = 0 ∨ k = 1 ∨ k = 2 ∨ k = 3 ∨ k = 4 ∨ k = 5 ∨ k = 6 ∨ k = 7 ∨ k = 8 := by omega
    all_goals
      try replace hs := hs (by decide)
      simp at hs
      unfold byteI firstB
      simp only [Nat.reducePow, Nat.reduceSub]
    · rw [show bits .xor .u8 IntKind.u8.max (255 / 2 ^ 0) = 0 from by decide, or_u8_join 0 _ 7 (by omega) (by omega) (by omega) (by omega) (by simp; omega) (by omega)]; omega
    · rw [show bits .xor .u8 IntKind.u8.max (255 / 2 ^ 1) = 128 from by decide, or_u8_join 128 _ 6 (by omega) (by omega) (by decide) (by omega) (by simp; omega) (by omega)]; omega
    · rw [show bits .xor .u8 IntKind.u8.max (255 / 2 ^ 2) = 192 from by decide, or_u8_join 192 _ 5 (by omega) (by omega) (by decide) (by omega) (by simp; omega) (by omega)]; omega
    · rw [show bits .xor .u8 IntKind.u8.max (255 / 2 ^ 3) = 224 from by decide, or_u8_join 224 _ 4 (by omega) (by omega) (by decide) (by omega) (by simp; omega) (by omega)]; omega
    · rw [show bits .xor .u8 IntKind.u8.max (255 / 2 ^ 4) = 240 from by decide, or_u8_join 240 _ 3 (by omega) (by omega) (by decide) (by omega) (by simp; omega) (by omega)]; omega
    · rw [show bits .xor .u8 IntKind.u8.max (255 / 2 ^ 5) = 248 from by decide, or_u8_join 248 _ 2 (by omega) (by omega) (by decide) (by omega) (by simp; omega) (by omega)]; omega
    · rw [show bits .xor .u8 IntKind.u8.max (255 / 2 ^ 6) = 252 from by decide, or_u8_join 252 _ 1 (by omega) (by omega) (by decide) (by omega) (by simp; omega) (by omega)]; omega
    · rw [show bits .xor .u8 IntKind.u8.max (255 / 2 ^ 7) = 254 from by decide, or_u8_join 254 _ 0 (by omega) (by omega) (by decide) (by omega) (by simp; omega) (by omega)]; omega
    · rw [show bits .xor .u8 IntKind.u8.max (255 / 2 ^ 8) = 255 from by decide, or_u8_join 255 _ 0 (by omega) (by omega) (by decide) (by omega) (by simp; omega) (by omega)]; omega
  exact he _ rfl
end Go.Proofs.Ytiiibhdohlpodaa

-- P1
namespace Go.Proofs.Ytiiibhdohlpodaa
open Go.RowKit

end Go.Proofs.Ytiiibhdohlpodaa

-- P2
namespace Go.Proofs.Ytiiibhdohlpodaa
open Go.RowKit
attribute [local go_sem ↓] Go.wp_at_zero Go.wp_at_succ

abbrev u8s (l : List Int) : List Value := l.map (Value.int .u8)

/-- The writer behind the pointer to block p holds the slice v, which owns the bytes l. -/
structure WrAt (T : TypeId) (E : TypeId) (w : World) (B p : Nat) (v : Value) (l : List Int) : Prop where
  base : B ≤ p
  box : w.heap[p]? = some (.cells #[v] T (0, 0))
  owns : w.ownsRow B E 1 v l.length (u8s l)
  apart : v.ownBlock ≠ some p

/-- What a call on it leaves. -/
def WrTo (T : TypeId) (E : TypeId) (w w' : World) (B p : Nat) (v : Value) (l' : List Int) : Prop :=
  ∃ v', WrAt T E w' B p v' l' ∧ (v'.ownBlock = v.ownBlock ∨ ∃ k, v'.ownBlock = some k ∧ w.heap.size ≤ k) ∧ Kept (fun k => k = p ∨ v.ownBlock = some k) w w'

theorem WrAt.to {T E : TypeId} {w : World} {B p : Nat} {v : Value} {l : List Int} (h : WrAt T E w B p v l) : WrTo T E w w B p v l :=
  ⟨v, h, .inl rfl, Kept.refl _ _⟩
theorem WrAt.lt {T E : TypeId} {w : World} {B p : Nat} {v : Value} {l : List Int} (h : WrAt T E w B p v l) : p < w.heap.size := (Array.getElem?_eq_some_iff.1 h.box).1
theorem WrAt.kept {T E : TypeId} {w w' : World} {B p : Nat} {v : Value} {l : List Int} {S : Nat → Prop} (h : WrAt T E w B p v l) (hk : Kept S w w') (hp : ¬ S p) (hv : ∀ k, v.ownBlock = some k → ¬ S k) : WrAt T E w' B p v l :=
  ⟨h.base, hk.same h.box hp, hk.owns h.owns hv, h.apart⟩

/-- A call's leavings taken apart: what the next call leaves is what both leave. -/
theorem WrTo.part {T E : TypeId} {w w1 : World} {B p : Nat} {v : Value} {l1 : List Int} (h : WrTo T E w w1 B p v l1) :
    ∃ v1, WrAt T E w1 B p v1 l1 ∧ w.heap.size ≤ w1.heap.size ∧ Hid (∀ w2 l2, WrTo T E w1 w2 B p v1 l2 → WrTo T E w w2 B p v l2) := by
  obtain ⟨v1, h1, a1, k1⟩ := h
  refine ⟨v1, h1, k1.size, fun w2 l2 k => ?_⟩
  obtain ⟨v2, h2, a2, k2⟩ := k
  refine ⟨v2, h2, ?_, k1.step k2 ?_⟩
  · rcases a2 with a2 | ⟨g, e, hg⟩
    · rw [a2]
      rcases a1 with a1 | a1
      · exact .inl a1
      · exact .inr a1
    · exact .inr ⟨g, e, Nat.le_trans k1.size hg⟩
  · intro k hk hS
    rcases hS with rfl | hS
    · exact .inl rfl
    · rcases a1 with a1 | ⟨g, e, hg⟩
      · exact .inr (a1 ▸ hS)
      · rw [e] at hS; cases hS; omega

/-- Behind an append and the store into the field. -/
theorem WrAt.pushed {T E : TypeId} {w wa w2 : World} {B p : Nat} {v v2 : Value} {l l2 : List Int} {m : Nat} (h : WrAt T E w B p v l) (hk : Kept (fun _ => False) w wa)
    (hown : w2.ownsRow B E 1 v2 (l.length + m) (u8s l ++ u8s l2)) (hg : wa.grownBy w2 v.ownBlock) (hm : m = l2.length)
    (hat : v2.ownBlock = v.ownBlock ∨ v2.ownBlock = some wa.heap.size) : WrTo T E w (w2.setCell ⟨p, 0, none⟩ v2) B p v (l ++ l2) := by
  have hp := h.lt
  have hpa : p < wa.heap.size := Nat.lt_of_lt_of_le hp hk.size
  have k2 : Kept (fun k => k = p ∨ v.ownBlock = some k) w w2 := (hk.mono (fun _ _ x => x.elim)).grown hg (fun k e _ => .inr e)
  have hbox : w2.heap[p]? = some (.cells #[v] T (0, 0)) := by
    rw [hg.block p hpa (fun e => h.apart e.symm)]
    exact hk.same h.box (fun x => x)
  have hne : v2.ownBlock ≠ some p := by
    rcases hat with e | e
    · rw [e]; exact h.apart
    · rw [e]; simp; omega
  refine ⟨v2, ⟨h.base, ?_, ?_, hne⟩, ?_, k2.setCell (fun _ => .inl rfl) v2⟩
  · exact one_setCell hbox
  · have := ((Kept.refl (fun k => k = p) w2).setCell (p := ⟨p, 0, none⟩) (fun _ => rfl) v2).owns hown (fun k e x => hne (by rw [e, x]))
    simpa [u8s, hm] using this
  · rcases hat with e | e
    · exact .inl e
    · exact .inr ⟨_, e, hk.size⟩

/-- Behind an append, ahead of the store: the box is as it was. -/
theorem WrAt.behind {T E : TypeId} {w wa w2 : World} {B p : Nat} {v : Value} {l : List Int} (h : WrAt T E w B p v l) (hk : Kept (fun _ => False) w wa) (hg : wa.grownBy w2 v.ownBlock) :
    w2.heap[p]? = some (.cells #[v] T (0, 0)) := by
  rw [hg.block p (Nat.lt_of_lt_of_le h.lt hk.size) (fun e => h.apart e.symm)]
  exact hk.same h.box (fun x => x)
theorem WrAt.cell {T E : TypeId} {w : World} {B p : Nat} {v : Value} {l : List Int} (h : WrAt T E w B p v l) : w.cell? ⟨p, 0, none⟩ = some v := cell_of_one h.box
theorem WrAt.free {T E : TypeId} {w : World} {B p : Nat} {v : Value} {l : List Int} (h : WrAt T E w B p v l) : w.frozen? ⟨p, 0, none⟩ = false := free_of_one h.box

theorem Try.info5 : (Try.prog.info? 5).map (fun i => (i.zero, i.size, i.bytes)) = some (some (.int .u8 0), 1, 1) := by kernel_rfl

end Go.Proofs.Ytiiibhdohlpodaa

-- P3
namespace Go.Proofs.Ytiiibhdohlpodaa
open Go.RowKit
attribute [local go_sem ↓] Go.wp_at_zero Go.wp_at_succ

end Go.Proofs.Ytiiibhdohlpodaa

-- P4
namespace Go.Proofs.Ytiiibhdohlpodaa
open Go.RowKit
attribute [local go_sem ↓] Go.wp_at_zero Go.wp_at_succ

theorem u8s_one (l : List Int) : ∀ u ∈ u8s l, u.oneCell' = true := by
  intro u hu; obtain ⟨x, _, rfl⟩ := List.mem_map.1 hu; rfl

/-- A new slice of the bytes l. -/
def Fresh (E : TypeId) (w w' : World) (v : Value) (l : List Int) : Prop :=
  w'.ownsRow w.heap.size E 1 v l.length (u8s l) ∧ Kept (fun _ => False) w w'

def Cloned (E : TypeId) (w : World) (l : List Int) (e : Ending) (w' : World) : Prop := ∃ v, e = .returned v ∧ Fresh E w w' v l

/-- The value v is a slice whose elements, of one cell each, read as xs. -/
structure SliceAt (w : World) (v : Value) (ao : Option Addr) (n c : Nat) (xs : List Value) : Prop where
  val : v = .slice ao n c
  len : xs.length = n
  none : ao = none → n = 0
  cells : ∀ a, ao = some a → ∀ j u, xs[j]? = some u → w.cell? (a.add j) = some u

theorem SliceAt.src {P : Program} {w : World} {v : Value} {ao : Option Addr} {n c : Nat} {xs : List Value} (h : SliceAt w v ao n c xs) {t e : TypeId} (hk : P.underlying t = some (.slice e)) (h1 : ∀ u ∈ xs, u.oneCell' = true) : Src P 1 t v n xs w := by
  obtain ⟨rfl, hl, hn, hc⟩ := h
  cases ao with
  | none =>
    obtain rfl := hn rfl
    have : xs = [] := List.eq_nil_of_length_eq_zero hl
    subst this
    exact Src.ofNil _ hk _
  | some a => exact Src.ofSlice _ hk _ n c xs (by omega) (hc a rfl) h1

theorem SliceAt.to {w w' : World} {v : Value} {ao : Option Addr} {n c : Nat} {xs : List Value} (h : SliceAt w v ao n c xs) (hk : ∀ p u, w.cell? p = some u → (∀ a, ao = some a → p.block = a.block) → w'.cell? p = some u) : SliceAt w' v ao n c xs := by
  refine ⟨h.val, h.len, h.none, fun a ha j u hu => hk _ _ (h.cells a ha j u hu) ?_⟩
  intro a' ha'
  rw [ha] at ha'; cases ha'
  unfold Addr.add; split <;> rfl
theorem SliceAt.alloc {w : World} {v : Value} {ao : Option Addr} {n c : Nat} {xs : List Value} (h : SliceAt w v ao n c xs) (o : Obj) : SliceAt (w.alloc o) v ao n c xs :=
  h.to fun _ _ hp _ => ((Kept.refl (fun _ => False) w).alloc o).cell hp fun x => x
theorem SliceAt.kept {S : Nat → Prop} {w w' : World} {v : Value} {ao : Option Addr} {n c : Nat} {xs : List Value} (h : SliceAt w v ao n c xs) (hk : Kept S w w') (hn : ∀ a, ao = some a → ¬ S a.block) : SliceAt w' v ao n c xs := by
  refine ⟨h.val, h.len, h.none, fun a ha j u hu => ?_⟩
  refine hk.cell (h.cells a ha j u hu) ?_
  have : (a.add j).block = a.block := by unfold Addr.add; split <;> rfl
  rw [this]; exact hn a ha
theorem SliceAt.ofOwn {w : World} {base : Nat} {e : TypeId} {v : Value} {n : Nat} {xs : List Value} (ho : w.ownsRow base e 1 v n xs) : ∃ ao c, SliceAt w v ao n c xs ∧ v.ownBlock = ao.map (·.block) := by
  obtain ⟨a, cap, rfl⟩ := ownsRow_slice ho
  refine ⟨a, cap, ⟨rfl, by simpa using ho.1, ?_, ?_⟩, by cases a <;> rfl⟩
  · rintro rfl
    rcases ho.2 with ⟨_, rfl⟩ | ⟨g, cap, cur, e, _⟩
    · rfl
    · cases e
  · rintro a rfl j u hu
    rcases ho.2 with ⟨e, _⟩ | ⟨g, cap', cur, e, _⟩
    · cases e
    · injection e with e1 e2 e3
      injection e1 with e1
      subst e1
      exact ho.cells rfl j u hu

end Go.Proofs.Ytiiibhdohlpodaa

-- P5
namespace Go.Proofs.Ytiiibhdohlpodaa
open Go.RowKit
attribute [local go_sem ↓] Go.wp_at_zero Go.wp_at_succ

/-- A text's bytes as numbers. -/
def strB (s : ByteArray) : List Int := s.data.toList.map fun b => (b.toNat : Int)
theorem strB_cells (s : ByteArray) : u8s (strB s) = byteCells s := by simp [u8s, strB, byteCells]
theorem strB_length (s : ByteArray) : (strB s).length = s.size := by
  unfold strB; rw [List.length_map, Array.length_toList]; rfl

/-- The reader behind the pointer to block p has the bytes l, of which at are taken, and the error e. -/
structure RdAt (T E : TypeId) (w : World) (B p : Nat) (v : Value) (l : List Int) (at' : Nat) (e : Int) : Prop where
  base : B ≤ p
  box : w.heap[p]? = some (.cells #[v, .int .i64 at', .int .i64 e] T (0, 0))
  owns : w.ownsRow B E 1 v l.length (u8s l)
  apart : v.ownBlock ≠ some p
  taken : at' ≤ l.length
  byte : ∀ x ∈ l, 0 ≤ x ∧ x < 256

theorem RdAt.lt {T E : TypeId} {w : World} {B p : Nat} {v : Value} {l : List Int} {t : Nat} {e : Int} (h : RdAt T E w B p v l t e) : p < w.heap.size := (Array.getElem?_eq_some_iff.1 h.box).1
theorem RdAt.kept {T E : TypeId} {w w' : World} {B p : Nat} {v : Value} {l : List Int} {t : Nat} {e : Int} {S : Nat → Prop} (h : RdAt T E w B p v l t e) (hk : Kept S w w') (hp : ¬ S p) (hv : ∀ k, v.ownBlock = some k → ¬ S k) : RdAt T E w' B p v l t e :=
  ⟨h.base, hk.same h.box hp, hk.owns h.owns hv, h.apart, h.taken, h.byte⟩
theorem RdAt.drewN {T E : TypeId} {w : World} {B p : Nat} {v : Value} {l : List Int} {t : Nat} {e : Int} (h : RdAt T E w B p v l t e) (q : Nat) : RdAt T E (w.drewN q) B p v l t e :=
  h.kept ((Kept.refl (fun _ => False) w).drewN q) (fun x => x) (fun _ _ x => x)
theorem RdAt.c0 {T E : TypeId} {w : World} {B p : Nat} {v : Value} {l : List Int} {t : Nat} {e : Int} (h : RdAt T E w B p v l t e) : w.cell? ⟨p, 0, none⟩ = some v := by rw [cell_of_row w p 0 _ _ _ h.box]; rfl
theorem RdAt.c1 {T E : TypeId} {w : World} {B p : Nat} {v : Value} {l : List Int} {t : Nat} {e : Int} (h : RdAt T E w B p v l t e) : w.cell? ⟨p, 1, none⟩ = some (.int .i64 t) := by rw [cell_of_row w p 1 _ _ _ h.box]; rfl
theorem RdAt.c2 {T E : TypeId} {w : World} {B p : Nat} {v : Value} {l : List Int} {t : Nat} {e : Int} (h : RdAt T E w B p v l t e) : w.cell? ⟨p, 2, none⟩ = some (.int .i64 e) := by rw [cell_of_row w p 2 _ _ _ h.box]; rfl

def Drawn (w w' : World) (P : Prop) : Prop := P ∧ ∃ q, w' = w.drewN q

/-- What NewReader leaves: a reader of its own copy. -/
def ReaderMade (T E : TypeId) (w : World) (l : List Int) (e : Ending) (w' : World) : Prop :=
  ∃ p v, e = .returned (.pointer (some ⟨p, 0, none⟩)) ∧ RdAt T E w' w.heap.size p v l 0 0 ∧ Kept (fun _ => False) w w'

end Go.Proofs.Ytiiibhdohlpodaa

-- L2
namespace Go.Proofs.Ytiiibhdohlpodaa
open Go.RowKit
/-- How many bits from the top on are set in a byte. -/
def lo (b : Int) : Nat := 8 - Lib.bitLen (255 - b).toNat
/-- The bits behind the first one that isn't set. -/
def topV (b : Int) (k : Nat) : Int := b % ((2 ^ (7 - k) : Nat) : Int)
def bigV (a : Int) (bs : List Int) : Int := bs.foldl (fun v b => v * 256 + b) a
/-- What is read at place t: the number, how many bytes it has, the error. -/
def lookF (l : List Int) (t : Nat) : Int × Nat × Int :=
  if l.length ≤ t then (0, 0, 2) else
  if l.length - t ≤ lo (l.getD t 0) then (0, 0, 2) else
  if oth (bigV (topV (l.getD t 0) (lo (l.getD t 0))) ((l.drop (t + 1)).take (lo (l.getD t 0)))) < lo (l.getD t 0) then (0, 0, 3) else
  (bigV (topV (l.getD t 0) (lo (l.getD t 0))) ((l.drop (t + 1)).take (lo (l.getD t 0))), 1 + lo (l.getD t 0), 0)

theorem lo_le (b : Int) : lo b ≤ 8 := by unfold lo; omega
theorem lo_eq (b : Int) (h0 : 0 ≤ b) (h1 : b < 256) : (8 - (Lib.bitLen (255 - b).toNat : Int)) = (lo b : Int) := by
  have l := Lib.bitLen_le8 ⟨(255 - b).toNat, by omega⟩
  simp only at l
  unfold lo; omega
theorem xor_u8_max (b : Int) (h0 : 0 ≤ b) (h1 : b < 256) : bits .xor .u8 IntKind.u8.max b = 255 - b := by
  obtain ⟨n, rfl⟩ : ∃ n : Nat, b = n := ⟨b.toNat, by omega⟩
  have hn : n < 2 ^ 8 := by omega
  have h := u8_xor_nat 255 n (by omega) (by omega)
  have e : 255 ^^^ n = 255 - n := by
    have b := congrArg BitVec.toNat (BitVec.xor_allOnes (x := BitVec.ofNat 8 n))
    rw [Nat.xor_comm]
    simpa [BitVec.toNat_xor, BitVec.toNat_allOnes, BitVec.toNat_not, Nat.mod_eq_of_lt hn] using b
  rw [e] at h
  have : ((255 - n : Nat) : Int) = 255 - (n : Int) := by omega
  rw [this] at h
  exact h
theorem and_top (b : Int) (k : Nat) (h0 : 0 ≤ b) (h1 : b < 256) (hk : k ≤ 8) : bits .and .u8 b (127 / 2 ^ k) = topV b k := by
  obtain ⟨n, rfl⟩ : ∃ n : Nat, b = n := ⟨b.toNat, by omega⟩
  have e : ∀ j : Nat, (127 : Int) / 2 ^ j = ((127 / 2 ^ j : Nat) : Int) := fun j => by simp
  have hlt : 127 / 2 ^ k < 256 := Nat.lt_of_le_of_lt (Nat.div_le_self _ _) (by omega)
  rw [e, u8_and_nat n _ (by omega) hlt]
  unfold topV
  have : n &&& 127 / 2 ^ k = n % 2 ^ (7 - k) := by
    obtain rfl | rfl | rfl | rfl | rfl | rfl | rfl | rfl | rfl : k = 0 ∨ k = 1 ∨ k = 2 ∨ k = 3 ∨ k = 4 ∨ k = 5 ∨ k = 6 ∨ k = 7 ∨ k = 8 := by omega
    · exact Nat.and_two_pow_sub_one_eq_mod n 7
    · exact Nat.and_two_pow_sub_one_eq_mod n 6
    · exact Nat.and_two_pow_sub_one_eq_mod n 5
    · exact Nat.and_two_pow_sub_one_eq_mod n 4
    · exact Nat.and_two_pow_sub_one_eq_mod n 3
    · exact Nat.and_two_pow_sub_one_eq_mod n 2
    · exact Nat.and_two_pow_sub_one_eq_mod n 1
    · exact Nat.and_two_pow_sub_one_eq_mod n 0
    · exact Nat.and_two_pow_sub_one_eq_mod n 0
  rw [this, Int.natCast_emod]
theorem topV_range (b : Int) (k : Nat) : 0 ≤ topV b k ∧ topV b k < ((2 ^ (7 - k) : Nat) : Int) := by
  have h : (0 : Int) < ((2 ^ (7 - k) : Nat) : Int) := by have := Nat.two_pow_pos (7 - k); omega
  exact ⟨Int.emod_nonneg _ (by omega), Int.emod_lt_of_pos _ h⟩
theorem bigV_snoc (a : Int) (bs : List Int) (x : Int) : bigV a (bs ++ [x]) = bigV a bs * 256 + x := by simp [bigV]
theorem bigV_range (a : Int) (m : Nat) (h0 : 0 ≤ a) (h1 : a < ((2 ^ m : Nat) : Int)) (bs : List Int) (hb : ∀ x ∈ bs, 0 ≤ x ∧ x < 256) : 0 ≤ bigV a bs ∧ bigV a bs < ((2 ^ (m + 8 * bs.length) : Nat) : Int) := by
  induction bs generalizing a m with
  | nil => exact ⟨h0, h1⟩
  | cons y r ih =>
    have hy := hb y (by simp)
    have h := ih (a * 256 + y) (m + 8) (by omega) (by rw [Nat.pow_add]; omega) (fun x hx => hb x (by simp [hx]))
    have e : m + 8 * (y :: r).length = m + 8 + 8 * r.length := by simp only [List.length_cons]; omega
    rw [e]
    exact h
theorem shl8 (v : Int) (h0 : 0 ≤ v) (h1 : v < 72057594037927936) : IntKind.u64.wrap (v * 256) = v * 256 := wrap_u64_of _ (by omega) (by omega)
theorem or_byte (v c : Int) (h0 : 0 ≤ v) (h1 : v < 72057594037927936) (h2 : 0 ≤ c) (h3 : c < 256) : bits .or .u64 (v * 256) c = v * 256 + c := by
  rw [u64_or _ _ (by omega) (by omega) h2 (by omega)]
  rw [nat_join 8 (v * 256).toNat c.toNat (by omega) (by omega)]
  omega
/-- What is read after j of k bytes stays below 2^56 as long as one more comes. -/
theorem bigV_small (b : Int) (k j : Nat) (bs : List Int) (hk : k ≤ 8) (hj : j < k) (hl : bs.length = j) (hb : ∀ x ∈ bs, 0 ≤ x ∧ x < 256) : 0 ≤ bigV (topV b k) bs ∧ bigV (topV b k) bs < 72057594037927936 := by
  have ht := topV_range b k
  have h := bigV_range (topV b k) (7 - k) ht.1 ht.2 bs hb
  refine ⟨h.1, Int.lt_of_lt_of_le h.2 ?_⟩
  have : 2 ^ (7 - k + 8 * bs.length) ≤ 2 ^ 56 := Nat.pow_le_pow_right (by omega) (by omega)
  have e : (2 : Nat) ^ 56 = 72057594037927936 := rfl
  rw [e] at this
  omega
theorem bigV_u64 (b : Int) (k : Nat) (bs : List Int) (hk : k ≤ 8) (hl : bs.length ≤ k) (hb : ∀ x ∈ bs, 0 ≤ x ∧ x < 256) : 0 ≤ bigV (topV b k) bs ∧ bigV (topV b k) bs ≤ 18446744073709551615 := by
  have ht := topV_range b k
  have h := bigV_range (topV b k) (7 - k) ht.1 ht.2 bs hb
  refine ⟨h.1, ?_⟩
  have : 2 ^ (7 - k + 8 * bs.length) ≤ 2 ^ 64 := Nat.pow_le_pow_right (by omega) (by omega)
  have e : (2 : Nat) ^ 64 = 18446744073709551616 := rfl
  rw [e] at this
  omega
end Go.Proofs.Ytiiibhdohlpodaa

-- P6
namespace Go.Proofs.Ytiiibhdohlpodaa
open Go.RowKit
attribute [local go_sem ↓] Go.wp_at_zero Go.wp_at_succ

/-- What a look leaves: v, n, and the error e'. -/
def Looked (T E : TypeId) (w : World) (B p : Nat) (v : Value) (l : List Int) (t : Nat) (r : Int × Nat × Int) (e : Ending) (w' : World) : Prop :=
  e = .returned (.tuple #[.int .u64 r.1, .int .i64 r.2.1]) ∧ RdAt T E w' B p v l t r.2.2 ∧ Kept (fun k => k = p) w w'

/-- The frame at look's label. -/
def AtEnd (p : Nat) (x : Int) (k : Nat) (e : Int) (a : Act) : Prop := ∃ u1 u3 u5 u7 u8 u9 u10 u11 u12 u13 u14 u15 u16 u17 u18 u19 u20 u21 u22 u23 u24 u25 u26 u27 u28 u29 u30 u31 u32 u33 u34 u35 u36 u37 u38 u39 u40 u41 u42 u43 u44 u45 u46 u47 u48 u49 u50 u51 u52 u53 u54 u55 u56 u57 u58 u59 u60 u61 u62 u63 u64 u65 u66 u67 u68 u69 u70 u71 u72 u73 : Value, a = { tmps := #[.pointer (some ⟨p, 0, none⟩), u1, .int .u64 x, u3, .int .i64 (k : Int), u5, .int .i64 e, u7, u8, u9, u10, u11, u12, u13, u14, u15, u16, u17, u18, u19, u20, u21, u22, u23, u24, u25, u26, u27, u28, u29, u30, u31, u32, u33, u34, u35, u36, u37, u38, u39, u40, u41, u42, u43, u44, u45, u46, u47, u48, u49, u50, u51, u52, u53, u54, u55, u56, u57, u58, u59, u60, u61, u62, u63, u64, u65, u66, u67, u68, u69, u70, u71, u72, u73], defers := [] }

/-- What holds at look's label: the number x, k bytes behind the first one, the error e. -/
def AtLabel (T E : TypeId) (w : World) (B p : Nat) (v : Value) (l : List Int) (t : Nat) (r : Int × Nat × Int) (a : Act) (w' : World) : Prop :=
  ∃ x k e e0, AtEnd p x k e a ∧ RdAt T E w' B p v l t e0 ∧ Kept (fun k => k = p) w w' ∧ (e = 0 → e0 = 0 ∧ r = (x, 1 + k, 0) ∧ k ≤ 8) ∧ (e ≠ 0 → r = (0, 0, e))

theorem addr_add (g j : Nat) : (⟨g, 0, none⟩ : Addr).add j = ⟨g, j, none⟩ := by unfold Addr.add; split <;> simp_all

theorem RdAt.free {T E : TypeId} {w : World} {B p : Nat} {v : Value} {l : List Int} {t : Nat} {e : Int} (h : RdAt T E w B p v l t e) (j : Nat) : w.frozen? ⟨p, j, none⟩ = false := by
  simp [World.frozen?, h.box]

theorem RdAt.setErr {T E : TypeId} {w : World} {B p : Nat} {v : Value} {l : List Int} {t : Nat} {e e2 : Int} (h : RdAt T E w B p v l t e) : RdAt T E (w.setCell ⟨p, 2, none⟩ (.int .i64 e2)) B p v l t e2 := by
  refine ⟨h.base, ?_, ?_, h.apart, h.taken, h.byte⟩
  · have e := h.box
    simp [World.setCell, Array.getElem?_modify, e]
  · exact ((Kept.refl (fun k => k = p) w).setCell (p := ⟨p, 2, none⟩) (fun _ => rfl) _).owns h.owns (fun k e x => h.apart (by rw [e, x]))

end Go.Proofs.Ytiiibhdohlpodaa

-- P7
namespace Go.Proofs.Ytiiibhdohlpodaa
open Go.RowKit
attribute [local go_sem ↓] Go.wp_at_zero Go.wp_at_succ

theorem RdAt.setAt {T E : TypeId} {w : World} {B p : Nat} {v : Value} {l : List Int} {t t2 : Nat} {e : Int} (h : RdAt T E w B p v l t e) (ht : t2 ≤ l.length) : RdAt T E (w.setCell ⟨p, 1, none⟩ (.int .i64 t2)) B p v l t2 e := by
  refine ⟨h.base, ?_, ?_, h.apart, ht, h.byte⟩
  · have e := h.box
    simp [World.setCell, Array.getElem?_modify, e]
  · exact ((Kept.refl (fun k => k = p) w).setCell (p := ⟨p, 1, none⟩) (fun _ => rfl) _).owns h.owns (fun k e x => h.apart (by rw [e, x]))

theorem lookF_taken (l : List Int) (t : Nat) (ht : t ≤ l.length) : t + (lookF l t).2.1 ≤ l.length := by
  unfold lookF
  split
  · simpa using ht
  · split
    · simpa using ht
    · split
      · simpa using ht
      · simp only; omega

/-- What a reading of a number leaves. -/
def Read (T E : TypeId) (w : World) (B p : Nat) (v : Value) (l : List Int) (t : Nat) (r : Int × Nat × Int) (e : Ending) (w' : World) : Prop :=
  e = .returned (.int .u64 r.1) ∧ RdAt T E w' B p v l (t + r.2.1) r.2.2 ∧ Kept (fun k => k = p) w w'

/-- A slice that owns its bytes, as a text. -/
theorem run_str_own {P : Program} {w : World} {B : Nat} {v : Value} {l : List Int} {E : TypeId} (ho : w.ownsRow B E 1 v l.length (u8s l)) (src e dst : TypeId) (hs : P.underlying src = some (.slice e)) (he : P.underlying e = some (.int .u8)) (hd : P.underlying dst = some .string) :
    (convert src dst v).run P w = .ok (.string (strOfNums l)) w := by
  rcases ho.2 with ⟨rfl, h0⟩ | ⟨g, cap, cur, rfl, _⟩
  · obtain rfl : l = [] := List.eq_nil_of_length_eq_zero h0
    exact run_convert_bytes_nil w src e hs he 0 0 dst hd
  · refine run_convert_bytes_arg w src e hs he g 0 l.length cap l rfl (fun i hi => ?_) dst hd
    have := ho.cells (g := g) rfl i (.int .u8 (l.getD i 0)) (by simp [List.getD_eq_getElem?_getD, List.getElem?_eq_getElem hi])
    rw [addr_add] at this
    simpa using this

theorem awake2_bytes : ([] : List Int) ++ numB 128 ++ numB ((ByteArray.mk #[97]).size : Nat) ++ strB ⟨#[97]⟩ ++ numB (zigI (-1)) = [128, 128, 1, 97, 1] := by decide
theorem awake2_look : lookF [128, 127] 0 = (0, 0, 3) := by decide

theorem WrTo.below {T E : TypeId} {w w' : World} {B p : Nat} {v : Value} {l l' : List Int} (h : WrAt T E w B p v l) (k : WrTo T E w w' B p v l') : Kept (fun k => B ≤ k) w w' := by
  obtain ⟨_, _, _, k3⟩ := k
  refine k3.mono fun j _ hj => ?_
  rcases hj with rfl | hj
  · exact h.base
  · exact (ownsRow_lt h.owns hj).2

end Go.Proofs.Ytiiibhdohlpodaa

-- L4
namespace Go.Proofs.Ytiiibhdohlpodaa
open Go.RowKit
theorem lo_ones_aux : ∀ b : Fin 256, ∀ j : Fin 8, (j.val < lo (b.val : Int) → b.val / 2 ^ (7 - j.val) % 2 = 1) ∧ (j.val = lo (b.val : Int) → b.val / 2 ^ (7 - j.val) % 2 = 0) := by decide +kernel
theorem lo_ones (b : Int) (j : Nat) (h0 : 0 ≤ b) (h1 : b < 256) (hj : j < 8) :
    (j < lo b → b / ((2 ^ (7 - j) : Nat) : Int) % 2 = 1) ∧ (j = lo b → b / ((2 ^ (7 - j) : Nat) : Int) % 2 = 0) := by
  obtain ⟨n, rfl⟩ : ∃ n : Nat, b = n := ⟨b.toNat, by omega⟩
  have h := lo_ones_aux ⟨n, by omega⟩ ⟨j, hj⟩
  simp only at h
  have e : (n : Int) / ((2 ^ (7 - j) : Nat) : Int) % 2 = ((n / 2 ^ (7 - j) % 2 : Nat) : Int) := by
    rw [Int.natCast_emod, Int.natCast_ediv]; rfl
  rw [e]
  exact ⟨fun x => by rw [h.1 x]; rfl, fun x => by rw [h.2 x]; rfl⟩
theorem oth_of_lt (v : Int) (k : Nat) (hk : k < 8) (h : v < ((2 ^ (7 + 7 * k) : Nat) : Int)) : oth v ≤ k := by
  unfold oth
  obtain rfl | rfl | rfl | rfl | rfl | rfl | rfl | rfl : k = 0 ∨ k = 1 ∨ k = 2 ∨ k = 3 ∨ k = 4 ∨ k = 5 ∨ k = 6 ∨ k = 7 := by omega
  all_goals
    simp at h
    (repeat' split) <;> omega
theorem oth_big (b : Int) (k : Nat) (bs : List Int) (hk : k ≤ 8) (hl : bs.length = k) (hb : ∀ x ∈ bs, 0 ≤ x ∧ x < 256) : oth (bigV (topV b k) bs) ≤ k := by
  by_cases h8 : k = 8
  · rw [h8]; exact oth_le _
  · have ht := topV_range b k
    have h := bigV_range (topV b k) (7 - k) ht.1 ht.2 bs hb
    have e : 7 - k + 8 * bs.length = 7 + 7 * k := by omega
    rw [e] at h
    exact oth_of_lt _ k (by omega) h.2
theorem bigV_one (a x : Int) : bigV a [x] = a * 256 + x := rfl
end Go.Proofs.Ytiiibhdohlpodaa

-- P8
namespace Go.Proofs.Ytiiibhdohlpodaa
open Go.RowKit
attribute [local go_sem ↓] Go.wp_at_zero Go.wp_at_succ

end Go.Proofs.Ytiiibhdohlpodaa

-- P9
namespace Go.Proofs.Ytiiibhdohlpodaa
open Go.RowKit
attribute [local go_sem ↓] Go.wp_at_zero Go.wp_at_succ

/-- What is answered of bytes from a place on. -/
def Got (r : Int × Nat × Int) : Value := .agg #[.int .u64 r.1, .int .i64 r.2.1, .int .i64 r.2.2]

theorem SliceAt.addr {w : World} {v : Value} {ao : Option Addr} {n c : Nat} {l : List Int} (h : SliceAt w v ao n c (u8s l)) (hp : 0 < l.length) :
    ∃ b off, ao = some ⟨b, off, Option.none⟩ ∧ ∀ j, j < l.length → w.cell? ⟨b, off + j, Option.none⟩ = some (.int .u8 (l.getD j 0)) := by
  cases ao with
  | none => have := h.none rfl; have h2 := h.len; simp [u8s] at h2; omega
  | some a =>
    have hc : ∀ i, i < l.length → w.cell? (a.add i) = some (.int .u8 (l.getD i 0)) := fun i hi => h.cells a rfl i _ (by simp [u8s, List.getD_eq_getElem?_getD, List.getElem?_eq_getElem hi])
    obtain ⟨b, off, spot⟩ := a
    have hspot : spot = Option.none := by simpa [Addr.add] using World.cell?_spot (hc 0 hp)
    subst hspot
    exact ⟨b, off, rfl, fun j hj => by rw [← Go.WideShapes.add_plain]; exact hc j hj⟩

theorem getD_mem {l : List Int} {i : Nat} (h : i < l.length) : l.getD i 0 ∈ l := by rw [List.getD_eq_getElem?_getD, List.getElem?_eq_getElem h]; simp

end Go.Proofs.Ytiiibhdohlpodaa

-- L3
namespace Go.Proofs.Ytiiibhdohlpodaa
open Go.ChangeShapes Go.WideShapes Go.ChangeAt Go.RowKit
theorem bd_i64 {a : Int} (h : (Lit.int .i64 a).wf = true) : -9223372036854775808 ≤ a ∧ a ≤ 9223372036854775807 := by
  simpa [Lit.wf, IntKind.min, IntKind.max, IntKind.signed, IntKind.bits] using h
theorem bd_u64 {a : Int} (h : (Lit.int .u64 a).wf = true) : 0 ≤ a ∧ a ≤ 18446744073709551615 := by
  simpa [Lit.wf, IntKind.min, IntKind.max, IntKind.signed, IntKind.bits] using h
theorem bd_u32 {a : Int} (h : (Lit.int .u32 a).wf = true) : 0 ≤ a ∧ a ≤ 4294967295 := by
  simpa [Lit.wf, IntKind.min, IntKind.max, IntKind.signed, IntKind.bits] using h
theorem bd_u8 {a : Int} (h : (Lit.int .u8 a).wf = true) : 0 ≤ a ∧ a ≤ 255 := by
  simpa [Lit.wf, IntKind.min, IntKind.max, IntKind.signed, IntKind.bits] using h

/-- A slice of integers that came in: nil; or it leads to a row of 'cap' cells, the numbers zs, of which the first 'len' are its elements. -/
def IsRow (k : IntKind) (w : World) (a : Option Addr) (len cap : Nat) (zs : List Int) : Prop :=
  (a = none ∧ len = 0 ∧ cap = 0 ∧ zs = []) ∨
  ∃ x, a = some x ∧ len ≤ cap ∧ cap ≤ maxLen ∧ zs.length = cap ∧ (∀ i, i < zs.length → w.cell? (x.add i) = some (.int k (zs.getD i 0))) ∧ ∀ n ∈ zs, (Lit.int k n).wf = true

theorem isRow_of {H : Type} {enc : TypeId × Value → H} {P : Program} {T E : TypeId} {k : IntKind} {W : World} {a : Option Addr} {len cap : Nat} {d : DataW H} {p : List MemPlace} {sp : Nat}
    (hT : P.underlying T = some (.slice E)) (hE : P.underlying E = some (.int k)) (hc : P.cellsOf E = 1) (h : DataW.Trod enc P W sp (fun _ => true) true T (.slice a len cap) d p) : ∃ zs, IsRow k W a len cap zs := by
  obtain ⟨fuel, hf⟩ := h
  rcases open_ints hT hE hc hf with ⟨hcs, _⟩ | ⟨x, l, c, zs, hcs, _, hl, hm, hz, _, hcell, hwz⟩
  · simp [Value.cells] at hcs
    obtain ⟨rfl, rfl, rfl⟩ := hcs
    exact ⟨[], .inl ⟨rfl, rfl, rfl, rfl⟩⟩
  · simp [Value.cells] at hcs
    obtain ⟨rfl, rfl, rfl⟩ := hcs
    exact ⟨zs, .inr ⟨_, rfl, hl, hm, by simpa using hz, hcell, hwz⟩⟩
end Go.Proofs.Ytiiibhdohlpodaa

-- L5
namespace Go.Proofs.Ytiiibhdohlpodaa
open Go.RowKit
theorem lo_first_aux : ∀ b : Fin 256, (b.val : Int) = 256 - ((2 ^ (8 - lo (b.val : Int)) : Nat) : Int) + (b.val : Int) % ((2 ^ (7 - lo (b.val : Int)) : Nat) : Int) := by decide +kernel
theorem lo_first (b : Int) (h0 : 0 ≤ b) (h1 : b < 256) : b = 256 - ((2 ^ (8 - lo b) : Nat) : Int) + topV b (lo b) := by
  obtain ⟨n, rfl⟩ : ∃ n : Nat, b = n := ⟨b.toNat, by omega⟩
  exact lo_first_aux ⟨n, by omega⟩
theorem div256 (V x : Int) (j : Nat) (hx : 0 ≤ x ∧ x < 256) : (V * 256 + x) / ((256 ^ (j + 1) : Nat) : Int) = V / ((256 ^ j : Nat) : Int) := by
  have e : ((256 ^ (j + 1) : Nat) : Int) = 256 * ((256 ^ j : Nat) : Int) := by rw [Nat.pow_succ, Nat.mul_comm]; simp
  rw [e, ← Int.ediv_ediv_of_nonneg (by omega)]
  congr 1
  omega
theorem snocInd {p : List Int → Prop} (h0 : p []) (h1 : ∀ r x, p r → p (r ++ [x])) (bs : List Int) : p bs := by
  have h : ∀ r : List Int, p r.reverse := fun r => by
    induction r with
    | nil => exact h0
    | cons x r ih => rw [List.reverse_cons]; exact h1 _ _ ih
  have := h bs.reverse
  rwa [List.reverse_reverse] at this
theorem bigV_top (a : Int) (bs : List Int) (hb : ∀ x ∈ bs, 0 ≤ x ∧ x < 256) : bigV a bs / ((256 ^ bs.length : Nat) : Int) = a := by
  revert hb
  refine snocInd (p := fun bs => (∀ x ∈ bs, 0 ≤ x ∧ x < 256) → bigV a bs / ((256 ^ bs.length : Nat) : Int) = a) ?_ ?_ bs
  · intro _; simp [bigV]
  · intro r x ih hb
    rw [bigV_snoc, List.length_append]
    show _ / ((256 ^ (r.length + 1) : Nat) : Int) = a
    rw [div256 _ _ _ (hb x (by simp))]
    exact ih fun y hy => hb y (by simp [hy])
theorem bigV_byte (a : Int) (bs : List Int) (hb : ∀ x ∈ bs, 0 ≤ x ∧ x < 256) : (List.range bs.length).map (fun i => byteI (bigV a bs) (bs.length - 1 - i)) = bs := by
  revert hb
  refine snocInd (p := fun bs => (∀ x ∈ bs, 0 ≤ x ∧ x < 256) → (List.range bs.length).map (fun i => byteI (bigV a bs) (bs.length - 1 - i)) = bs) ?_ ?_ bs
  · intro _; rfl
  · intro r x ih hb
    have hx := hb x (by simp)
    rw [bigV_snoc, List.length_append]
    show (List.range (r.length + 1)).map _ = _
    rw [List.range_succ, List.map_append]
    congr 1
    · refine Eq.trans (List.map_congr_left fun i hi => ?_) (ih fun y hy => hb y (by simp [hy]))
      have hi' : i < r.length := by simpa using hi
      have e : r.length + [x].length - 1 - i = (r.length - 1 - i) + 1 := by simp; omega
      unfold byteI
      rw [e, div256 _ _ _ hx]
    · simp only [List.map_cons, List.map_nil, List.length_singleton]
      have e : r.length + 1 - 1 - r.length = 0 := by omega
      rw [e]
      unfold byteI
      simp
      omega
theorem look_num (l : List Int) (t n : Nat) (v : Int) (hb : ∀ x ∈ l, 0 ≤ x ∧ x < 256) (h : lookF l t = (v, n, 0)) :
    numB v = (l.drop t).take n ∧ 0 ≤ v ∧ v ≤ 18446744073709551615 ∧ 1 ≤ n ∧ n ≤ 9 ∧ t + n ≤ l.length := by
  unfold lookF at h
  by_cases h1 : l.length ≤ t
  · rw [if_pos h1] at h; simp at h
  rw [if_neg h1] at h
  by_cases h2 : l.length - t ≤ lo (l.getD t 0)
  · rw [if_pos h2] at h; simp at h
  rw [if_neg h2] at h
  have ht : t < l.length := by omega
  have hbm : l.getD t 0 ∈ l := by rw [List.getD_eq_getElem?_getD, List.getElem?_eq_getElem ht]; simp
  obtain ⟨b0, b1⟩ := hb _ hbm
  have hbs : ∀ x ∈ (l.drop (t + 1)).take (lo (l.getD t 0)), 0 ≤ x ∧ x < 256 := fun x hx => hb x (List.mem_of_mem_drop (List.mem_of_mem_take hx))
  have hbl : ((l.drop (t + 1)).take (lo (l.getD t 0))).length = lo (l.getD t 0) := by rw [List.length_take, List.length_drop]; omega
  have ll := lo_le (l.getD t 0)
  have hX := bigV_u64 (l.getD t 0) (lo (l.getD t 0)) _ ll (by omega) hbs
  have hoth := oth_big (l.getD t 0) (lo (l.getD t 0)) _ ll hbl hbs
  have htop := bigV_top (topV (l.getD t 0) (lo (l.getD t 0))) _ hbs
  have hbyte := bigV_byte (topV (l.getD t 0) (lo (l.getD t 0))) _ hbs
  rw [hbl] at htop hbyte
  by_cases h3 : oth (bigV (topV (l.getD t 0) (lo (l.getD t 0))) ((l.drop (t + 1)).take (lo (l.getD t 0)))) < lo (l.getD t 0)
  · rw [if_pos h3] at h; simp at h
  rw [if_neg h3] at h
  simp only [Prod.mk.injEq] at h
  obtain ⟨hv, hn, _⟩ := h
  rw [hv] at htop hbyte hX h3 hoth
  have ho : oth v = lo (l.getD t 0) := by omega
  refine ⟨?_, hX.1, hX.2, by omega, by omega, by omega⟩
  unfold numB restB firstB
  rw [ho, htop, hbyte, ← lo_first _ b0 b1, ← hn]
  have hd : l.drop t = l.getD t 0 :: l.drop (t + 1) := by
    rw [List.getD_eq_getElem?_getD, List.getElem?_eq_getElem ht]; simp
  rw [hd, Nat.add_comm 1, List.take_succ_cons]
end Go.Proofs.Ytiiibhdohlpodaa
namespace Go.Proofs.Ytiiibhdohlpodaa
open Go.RowKit
theorem look_fault (l : List Int) (t n : Nat) (v e : Int) (h : lookF l t = (v, n, e)) (he : e ≠ 0) : v = 0 ∧ n = 0 := by
  unfold lookF at h
  split at h
  · simp only [Prod.mk.injEq] at h; omega
  · split at h
    · simp only [Prod.mk.injEq] at h; omega
    · split at h
      · simp only [Prod.mk.injEq] at h; omega
      · simp only [Prod.mk.injEq] at h; omega
end Go.Proofs.Ytiiibhdohlpodaa

-- P10
namespace Go.Proofs.Ytiiibhdohlpodaa
open Go.RowKit
attribute [local go_sem ↓] Go.wp_at_zero Go.wp_at_succ

theorem quietSame {P : Program} {f : FuncId} {args : Array Value} {w : World} {n : Nat} {v : Value}
    (h : Calls P f args (w.drewN n) fun e w' => e = .returned v ∧ w.drewN n = w') : Calls P f args (w.drewN n) fun e w'' => e = .returned v ∧ ∃ m, w'' = w.drewN m :=
  Calls.quiet_of_same (h.mono fun _ _ ⟨a, b⟩ => ⟨a, b.symm⟩)
theorem quietDrawn {P : Program} {f : FuncId} {args : Array Value} {w : World} {n : Nat} {v : Value}
    (h : Calls P f args (w.drewN n) fun e w' => Drawn (w.drewN n) w' (e = .returned v)) : Calls P f args (w.drewN n) fun e w'' => e = .returned v ∧ ∃ m, w'' = w.drewN m :=
  Calls.quiet_of (h.mono fun _ _ ⟨a, b⟩ => ⟨a, b⟩)

/-- A slice of bytes that came in. -/
theorem IsRow.bytes {w : World} {a : Option Addr} {len cap : Nat} {zs : List Int} (h : IsRow .u8 w a len cap zs) :
    ∃ l : List Int, l.length = len ∧ SliceAt w (.slice a len cap) a len cap (u8s l) ∧ len ≤ cap ∧ ∀ x ∈ l, 0 ≤ x ∧ x < 256 := by
  rcases h with ⟨rfl, rfl, rfl, rfl⟩ | ⟨x, rfl, hl, _, hz, hc, hw⟩
  · exact ⟨[], rfl, ⟨rfl, rfl, (fun _ => rfl), (fun a ha => by cases ha)⟩, Nat.le_refl _, (fun x hx => by cases hx)⟩
  · refine ⟨zs.take len, by rw [List.length_take]; omega, ⟨rfl, by simp [u8s]; omega, (fun h => by cases h), fun a ha j u hu => ?_⟩, hl, fun y hy => ?_⟩
    · cases ha
      have hj : j < len := by
        have := (List.getElem?_eq_some_iff.1 hu).1
        simp [u8s] at this; omega
      rw [hc j (by omega)]
      have e : (u8s (zs.take len))[j]? = some (.int .u8 (zs.getD j 0)) := by simp [u8s, hj, List.getD_eq_getElem?_getD, show j < zs.length by omega]
      rw [e] at hu
      exact hu
    · have := bd_u8 (hw y (List.mem_of_mem_take hy))
      omega

/-- The first bytes of a slice, as a text. -/
theorem SliceAt.str {w : World} {g off n c m c' : Nat} {l : List Int} (h : SliceAt w (.slice (some ⟨g, off, Option.none⟩) n c) (some ⟨g, off, Option.none⟩) n c (u8s l)) (hm : m ≤ n) {P : Program} (src e dst : TypeId) (hs : P.underlying src = some (.slice e)) (he : P.underlying e = some (.int .u8)) (hd : P.underlying dst = some .string) :
    (convert src dst (.slice (some ⟨g, off, Option.none⟩) m c')).run P w = .ok (.string (strOfNums (l.take m))) w := by
  have hl : l.length = n := by have := h.len; simpa [u8s] using this
  refine run_convert_bytes_arg w src e hs he g off m c' (l.take m) (by rw [List.length_take]; omega) (fun i hi => ?_) dst hd
  have := h.cells _ rfl i (.int .u8 (l.getD i 0)) (by simp [u8s, List.getD_eq_getElem?_getD, List.getElem?_eq_getElem (show i < l.length by omega)])
  rw [Go.WideShapes.add_plain] at this
  rw [this]
  simp [List.getD_eq_getElem?_getD, hi]
end Go.Proofs.Ytiiibhdohlpodaa

-- Zb
-- Q1
namespace Go.Proofs.Ytiiibhdohlpodaa
open Go.RowKit
attribute [local go_sem ↓] Go.wp_at_zero Go.wp_at_succ

/-- A fixed number's bytes, so many. -/
def fixK (v : Int) (j : Nat) : List Int := (List.range j).map (byteI v)
def fixB (v : Int) : List Int := fixK v 8
theorem fixK_succ (v : Int) (j : Nat) : fixK v (j + 1) = fixK v j ++ [byteI v j] := by unfold fixK; rw [List.range_succ, List.map_append]; rfl
@[simp] theorem fixK_length (v : Int) (j : Nat) : (fixK v j).length = j := by simp [fixK]

theorem own_kept {w wr wa w2 : World} {E : TypeId} {v : Value} {n : Nat} {xs : List Value} (hk : Kept (fun _ => False) w wr) (ha : Kept (fun _ => False) wr wa) (ho : wr.ownsRow w.heap.size E 1 v n xs) (hg : wa.grownBy w2 v.ownBlock) : Kept (fun _ => False) w w2 :=
  (hk.trans ha).grown hg (fun k e hlt => by have := (ownsRow_lt ho e).2; omega)

theorem restB_cons (v : Int) (j : Nat) : byteI v j :: restB v j j = restB v (j + 1) (j + 1) := by
  unfold restB
  rw [List.range_succ_eq_map, List.map_cons, List.map_map]
  simp only [Nat.add_sub_cancel, Nat.sub_zero]
  congr 1
  apply List.map_congr_left
  intro i hi
  simp only [Function.comp_apply]
  congr 1
  omega

/-- The first byte's ones. -/
def onesB (j : Nat) : Nat := 256 - 2 ^ (8 - j)
theorem onesB_succ (j : Nat) (hj : j < 8) : onesB (j + 1) = onesB j + 128 / 2 ^ j := by
  obtain rfl | rfl | rfl | rfl | rfl | rfl | rfl | rfl : j = 0 ∨ j = 1 ∨ j = 2 ∨ j = 3 ∨ j = 4 ∨ j = 5 ∨ j = 6 ∨ j = 7 := by omega
  all_goals decide
theorem firstB_ones (v : Int) (k : Nat) (hk : k ≤ 8) : firstB v k = (onesB k : Int) + v / ((256 ^ k : Nat) : Int) := by
  unfold firstB onesB
  have h : 2 ^ (8 - k) ≤ 2 ^ 8 := Nat.pow_le_pow_right (by omega) (by omega)
  have h2 : (2 : Nat) ^ 8 = 256 := rfl
  omega
theorem num_top (x : Int) (h0 : 0 ≤ x) (h1 : x ≤ 18446744073709551615) : 0 ≤ x / ((256 ^ oth x : Nat) : Int) ∧ (oth x < 8 → (onesB (oth x) : Int) + x / ((256 ^ oth x : Nat) : Int) < 256) ∧ (oth x = 8 → x / ((256 ^ oth x : Nat) : Int) = 0) := by
  have hk := oth_le x
  have hp : (0 : Int) < ((256 ^ oth x : Nat) : Int) := by have := Nat.pow_pos (n := oth x) (show 0 < 256 by decide); omega
  refine ⟨Int.ediv_nonneg h0 (by omega), fun h => ?_, fun h => ?_⟩
  · have he := oth_end x (oth x) rfl h
    generalize oth x = k at *
    obtain rfl | rfl | rfl | rfl | rfl | rfl | rfl | rfl : k = 0 ∨ k = 1 ∨ k = 2 ∨ k = 3 ∨ k = 4 ∨ k = 5 ∨ k = 6 ∨ k = 7 := by omega
    all_goals
      simp only [onesB, Nat.reduceMul, Nat.reduceAdd, Nat.reduceSub, Nat.reducePow] at he ⊢
      omega
  · rw [h]
    simp only [Nat.reducePow]
    omega

end Go.Proofs.Ytiiibhdohlpodaa

-- R1
namespace Go.Proofs.Ytiiibhdohlpodaa
open Go.ChangeShapes Go.WideShapes Go.Deep Go.RowKit

/-- Each element of a slice of structs (of fields of one cell each) lies in its cells, and each field reads by its own type. -/
theorem recs_of {H : Type} {enc : TypeId × Value → H} {P : Program} {W : World} {sp : Nat} {T E : TypeId} {fs : Array Field} {a : Option Addr} {len cap : Nat} {d : DataW H} {p : List MemPlace}
    (hT : P.underlying T = some (.slice E)) (hE : P.underlying E = some (.struct fs)) (hone : oneCellFields P fs = true) (hC : P.cellsOf E = fs.size) (h : DataW.Trod enc P W sp (fun _ => true) true T (.slice a len cap) d p) :
    (a = none ∧ len = 0 ∧ cap = 0) ∨
    ∃ x, a = some x ∧ len ≤ cap ∧ cap ≤ maxLen ∧ ∀ i, i < len → ∀ (j : Nat) (f : Field), fs[j]? = some f → ∃ (v : Value) (n : Nat) (y : DataW H × List MemPlace), W.cell? (x.add (i * fs.size + j)) = some v ∧ DataW.trod enc P W sp (fun _ => true) true n f.type [v] = some y := by
  obtain ⟨fuel, hf⟩ := h
  rcases open_slice hT hf with ⟨hcs, _⟩ | ⟨x, l, c, m, n, D, Pl, hcs, _, hl, hm, hmm, _, hi⟩
  · simp [Value.cells] at hcs
    obtain ⟨rfl, rfl, rfl⟩ := hcs
    exact .inl ⟨rfl, rfl, rfl⟩
  · simp [Value.cells] at hcs
    obtain ⟨rfl, rfl, rfl⟩ := hcs
    refine .inr ⟨x, rfl, hl, hm, fun i hil j f hj => ?_⟩
    obtain ⟨cs', hc, ht'⟩ := hi i (by simp at hmm; omega)
    rw [hC] at hc
    obtain ⟨ys, n', _, _, _, hyl, hg⟩ := DataW.trod_struct hE ht'
    obtain ⟨_, hcl, hat⟩ := World.cells?_some hc
    obtain ⟨ho, hk⟩ := hone_of hone j f hj
    have hjl : j < fs.size := (Array.getElem?_eq_some_iff.1 hj).1
    have h1 := hg j f hj
    rw [ho, hk, List.drop_eq_getElem_cons (by omega), List.take_succ_cons, List.take_zero, List.getElem?_eq_getElem (by omega)] at h1
    refine ⟨cs'[j]'(by omega), n', _, ?_, h1⟩
    rw [← Go.Deep.add_add, hat j hjl, List.getElem?_eq_getElem (by omega)]
end Go.Proofs.Ytiiibhdohlpodaa

-- Q2
namespace Go.Proofs.Ytiiibhdohlpodaa
open Go.ChangeShapes Go.WideShapes Go.ChangeAt Go.RowKit Go.Deep
attribute [local go_sem ↓] Go.wp_at_zero Go.wp_at_succ

theorem wtrod_i64 {H : Type} {enc : TypeId × Value → H} {P : Program} {T : TypeId} {k : IntKind} {W : World} {sp n : Nat} {v : Value} {y : DataW H × List MemPlace}
    (hT : P.underlying T = some (.int k)) (h : DataW.trod enc P W sp (fun _ => true) true n T [v] = some y) : ∃ x, v = .int k x ∧ (Lit.int k x).wf = true := by
  obtain ⟨x, e, _, hw⟩ := DataW.trod_int hT h
  injection e with e _
  exact ⟨x, e, hw⟩
theorem wtrod_str {H : Type} {enc : TypeId × Value → H} {P : Program} {T : TypeId} {W : World} {sp n : Nat} {v : Value} {y : DataW H × List MemPlace}
    (hT : P.underlying T = some .string) (h : DataW.trod enc P W sp (fun _ => true) true n T [v] = some y) : ∃ s, v = .string s := by
  obtain ⟨s, e, _, hw⟩ := DataW.trod_string hT h
  injection e with e _
  exact ⟨s, e⟩

/-- A word. -/
structure WRec where
  k : Int
  n : Int
  v : Int
  s : ByteArray

/-- It lies at a place. -/
structure WordAt (W : World) (g o : Nat) (r : WRec) : Prop where
  ck : W.cell? ⟨g, o, none⟩ = some (.int .i64 r.k)
  cn : W.cell? ⟨g, o + 1, none⟩ = some (.int .i64 r.n)
  cv : W.cell? ⟨g, o + 2, none⟩ = some (.int .u64 r.v)
  cs : W.cell? ⟨g, o + 3, none⟩ = some (.string r.s)
  hn : -9223372036854775808 ≤ r.n ∧ r.n ≤ 9223372036854775807
  hv : 0 ≤ r.v ∧ r.v ≤ 18446744073709551615

/-- A slice of them. -/
def WordsAt (W : World) (ao : Option Addr) (rs : List WRec) : Prop :=
  0 < rs.length → ∃ g o, ao = some ⟨g, o, none⟩ ∧ ∀ i r, rs[i]? = some r → WordAt W g (o + i * 4) r

theorem WordAt.kept {W w : World} {g o : Nat} {r : WRec} (h : WordAt W g o r) (hk : Kept (fun _ => False) W w) : WordAt w g o r :=
  ⟨hk.cell h.ck (fun x => x), hk.cell h.cn (fun x => x), hk.cell h.cv (fun x => x), hk.cell h.cs (fun x => x), h.hn, h.hv⟩
theorem WordsAt.kept {W w : World} {ao : Option Addr} {rs : List WRec} (h : WordsAt W ao rs) (hk : Kept (fun _ => False) W w) : WordsAt w ao rs := fun h0 => by
  obtain ⟨g, o, e, hr⟩ := h h0
  exact ⟨g, o, e, fun i r hi => (hr i r hi).kept hk⟩

theorem wchoose_list {α : Type} {n : Nat} {P : Nat → α → Prop} (h : ∀ i, i < n → ∃ r, P i r) : ∃ l : List α, l.length = n ∧ ∀ i r, l[i]? = some r → P i r := by
  induction n with
  | zero => exact ⟨[], rfl, by simp⟩
  | succ n ih =>
    obtain ⟨l, hl, hp⟩ := ih (fun i hi => h i (by omega))
    obtain ⟨r, hr⟩ := h n (by omega)
    refine ⟨l ++ [r], by simp [hl], fun i r' hi => ?_⟩
    rw [List.getElem?_append] at hi
    split at hi
    · exact hp i r' hi
    · rename_i h1
      have h2 : i - l.length = 0 := by
        rcases Nat.eq_zero_or_pos (i - l.length) with h | h
        · exact h
        · rw [List.getElem?_eq_none (by simp; omega)] at hi; cases hi
      rw [h2] at hi
      simp at hi
      have h3 : i = n := by omega
      subst hi; rw [h3]; exact hr

/-- Are there few, and short? -/
def fewW (rs : List WRec) : Bool := decide (rs.length ≤ 60) && rs.all fun r => decide (r.s.size ≤ 300)

/-- `[]byte(s)` -/
theorem strBytes_run {P : Program} (w : World) (src dst : TypeId) (s : ByteArray) (hs : P.underlying src = some .string) (hd : P.underlying dst = some (.slice 5)) (he : P.underlying 5 = some (.int .u8)) :
    (convert src dst (.string s)).run P w = .ok (.slice (some ⟨w.heap.size, 0, none⟩) s.size (grownCap w s.size 0 5)) (Lib.bytesWorld w 5 s) := Lib.run_convert_string_bytes w src dst 5 s hs hd he
theorem strBytes_kept (w : World) (e : TypeId) (s : ByteArray) : Kept (fun _ => False) w (Lib.bytesWorld w e s) :=
  ⟨rfl, rfl, rfl, by rw [Lib.bytesWorld_size]; omega, fun j hj _ => Lib.bytesWorld_at_old w e s j hj⟩
theorem strBytes_src {P : Program} (w : World) (e t : TypeId) (s : ByteArray) (c : Nat) (ht : P.underlying t = some (.slice e)) : Src P 1 t (.slice (some ⟨w.heap.size, 0, none⟩) s.size c) (strB s).length (u8s (strB s)) (Lib.bytesWorld w e s) := by
  rw [strB_length]
  refine Src.ofSlice _ ht _ _ c _ (by simp [strB_length]) (fun j u hj => ?_) (u8s_one _)
  have hlt : j < s.size := by
    have := (List.getElem?_eq_some_iff.1 hj).1
    simpa [strB_length] using this
  rw [addr_add, Lib.bytesWorld_cell w e s j hlt]
  unfold u8s strB at hj
  rw [List.map_map, List.getElem?_map] at hj
  obtain ⟨b, hb, rfl⟩ := Option.map_eq_some_iff.1 hj
  rw [List.getD_eq_getElem?_getD, hb]; rfl
end Go.Proofs.Ytiiibhdohlpodaa

-- Q5
namespace Go.Proofs.Ytiiibhdohlpodaa
open Go.RowKit
attribute [local go_sem ↓] Go.wp_at_zero Go.wp_at_succ

/-- What a look answers, the error it had ahead of all. -/
def lookE (l : List Int) (t : Nat) (e : Int) : Int × Nat × Int := if e = 0 then lookF l t else (0, 0, e)
theorem lookE_taken (l : List Int) (t : Nat) (e : Int) (ht : t ≤ l.length) : t + (lookE l t e).2.1 ≤ l.length := by
  unfold lookE
  split
  · exact lookF_taken l t ht
  · simpa using ht
theorem lookE_fault {l : List Int} {t n : Nat} {e v e1 : Int} (h : lookE l t e = (v, n, e1)) (he : e1 ≠ 0) : v = 0 ∧ n = 0 := by
  unfold lookE at h
  split at h
  · exact look_fault l t n v e1 h he
  · simp only [Prod.mk.injEq] at h; omega
theorem lookE_num {l : List Int} {t n : Nat} {e v : Int} (hb : ∀ x ∈ l, 0 ≤ x ∧ x < 256) (h : lookE l t e = (v, n, 0)) : e = 0 ∧ 0 ≤ v ∧ v ≤ 18446744073709551615 ∧ t + n ≤ l.length := by
  unfold lookE at h
  split at h
  · rename_i he
    obtain ⟨_, h1, h2, _, _, h3⟩ := look_num l t n v hb h
    exact ⟨he, h1, h2, h3⟩
  · rename_i he
    simp only [Prod.mk.injEq] at h; omega

theorem lookE_range (l : List Int) (t : Nat) (e : Int) (hb : ∀ x ∈ l, 0 ≤ x ∧ x < 256) : 0 ≤ (lookE l t e).1 ∧ (lookE l t e).1 ≤ 18446744073709551615 := by
  obtain ⟨r, hr⟩ : ∃ r, r = lookE l t e := ⟨_, rfl⟩
  obtain ⟨v, n, e1⟩ := r
  rw [← hr]
  by_cases he : e1 = 0
  · subst he
    obtain ⟨_, h1, h2, _⟩ := lookE_num hb hr.symm
    exact ⟨h1, h2⟩
  · have := (lookE_fault hr.symm he).1
    simp only; omega

/-- What Count answers. -/
def countF (l : List Int) (t : Nat) (e most : Int) : Int × Nat × Int := if (lookE l t e).2.2 = 0 ∧ (most < 0 ∨ most < (lookE l t e).1) then (0, 0, 4) else lookE l t e

theorem wrun_cut {P : Program} {t E : TypeId} {i : TypeInfo} (ht : P.underlying t = some (.slice E)) (hi : P.info? E = some i) (hs : i.size = 1) (a : Option Addr) (len cap lo hi' : Nat) (hlo : lo ≤ hi') (hhi : hi' ≤ cap) (w : World) :
    (Instr.slice t (.slice a len cap) (some (.int .i64 (lo : Int))) (some (.int .i64 (hi' : Int))) none).run P w = .ok (.slice (if cap = lo then a else a.map (·.add lo)) (hi' - lo) (cap - lo)) w := by
  have he : P.elem t = E := by simp [Program.elem, ht]
  rw [run_slice_lh w t a len cap (by rw [he]; exact ht) .i64 .i64 lo hi' (by omega) (by omega) (by omega), he]
  simp [sizeOf, typeInfo, hi, hs, sliced]
theorem wrun_cutAt {P : Program} {t E : TypeId} {i : TypeInfo} (ht : P.underlying t = some (.slice E)) (hi : P.info? E = some i) (hs : i.size = 1) (a : Option Addr) (len cap lo hi' : Nat) (hlo : lo ≤ hi') (hhi : hi' ≤ cap) (w : World) :
    (Instr.sliceAt t (.slice a len cap) (some (.int .i64 (lo : Int))) (some (.int .i64 (hi' : Int))) none).run P w = .ok (.slice (if cap = lo then a else a.map (·.add lo)) (hi' - lo) (cap - lo)) w := by
  have he : P.elem t = E := by simp [Program.elem, ht]
  rw [run_sliceAt_slice w t _ _ _ _ (by rw [he]; exact ht)]
  exact wrun_cut ht hi hs a len cap lo hi' hlo hhi w
theorem wadd_add (a : Addr) (i j : Nat) : (a.add i).add j = a.add (i + j) := by
  unfold Addr.add
  by_cases hi : i = 0 <;> by_cases hj : j = 0 <;> simp [hi, hj, Nat.add_assoc]
theorem own_capW {w : World} {B : Nat} {E : TypeId} {ao : Option Addr} {s n m c : Nat} {xs : List Value} (h : w.ownsRow B E s (.slice ao n c) m xs) : m ≤ c := by
  rcases h.2 with ⟨e, h0⟩ | ⟨g, cap, cur, e, _, _, hm, _⟩
  · omega
  · injection e with e1 e2 e3; omega
theorem SliceAt.cut {w : World} {ao : Option Addr} {n c : Nat} {l : List Int} (h : SliceAt w (.slice ao n c) ao n c (u8s l)) {lo hi : Nat} (h1 : lo ≤ hi) (h2 : hi ≤ n) (h3 : n ≤ c) :
    SliceAt w (.slice (if c = lo then ao else ao.map (·.add lo)) (hi - lo) (c - lo)) (if c = lo then ao else ao.map (·.add lo)) (hi - lo) (c - lo) (u8s ((l.drop lo).take (hi - lo))) := by
  have hl := h.len
  have hll : l.length = n := by simpa [u8s] using hl
  have hlen : (u8s ((l.drop lo).take (hi - lo))).length = hi - lo := by simp [u8s]; omega
  refine ⟨rfl, hlen, fun h0 => ?_, fun a ha j u hu => ?_⟩
  · by_cases hcl : c = lo
    · omega
    · rw [if_neg hcl] at h0
      cases ao with
      | none => have := h.none rfl; omega
      | some a => cases h0
  · have hj : j < hi - lo := by have := (List.getElem?_eq_some_iff.1 hu).1; omega
    rw [if_neg (by omega)] at ha
    cases ao with
    | none => cases ha
    | some b =>
      cases ha
      rw [wadd_add]
      refine h.cells b rfl _ u ?_
      unfold u8s at hu ⊢
      rw [List.getElem?_map, List.getElem?_take, if_pos hj, List.getElem?_drop] at hu
      rw [List.getElem?_map]; exact hu

/-- What next answers: the bytes, how many are taken, the error. -/
def nextF (l : List Int) (t : Nat) (e n : Int) : List Int × Nat × Int :=
  if e ≠ 0 then ([], 0, e) else if n < 0 then ([], 0, 1) else if (l.length : Int) - t < n then ([], 0, 2) else ((l.drop t).take n.toNat, n.toNat, 0)

theorem sliceAt_nil (w : World) : SliceAt w (.slice none 0 0) none 0 0 (u8s []) := ⟨rfl, rfl, fun _ => rfl, fun a h => by cases h⟩

end Go.Proofs.Ytiiibhdohlpodaa

-- Q6
namespace Go.Proofs.Ytiiibhdohlpodaa
open Go.RowKit

theorem first_aux : ∀ k : Fin 9, ∀ z : Fin 128, z.val < 2 ^ (7 - k.val) → lo (256 - ((2 ^ (8 - k.val) : Nat) : Int) + (z.val : Int)) = k.val ∧ topV (256 - ((2 ^ (8 - k.val) : Nat) : Int) + (z.val : Int)) k.val = (z.val : Int) := by decide +kernel
theorem top_lt (v : Int) (h0 : 0 ≤ v) (h1 : v ≤ 18446744073709551615) : 0 ≤ v / ((256 ^ oth v : Nat) : Int) ∧ v / ((256 ^ oth v : Nat) : Int) < ((2 ^ (7 - oth v) : Nat) : Int) := by
  have hk := oth_le v
  have hp : (0 : Int) < ((256 ^ oth v : Nat) : Int) := by have := Nat.pow_pos (n := oth v) (show 0 < 256 by decide); omega
  refine ⟨Int.ediv_nonneg h0 (by omega), ?_⟩
  by_cases h : oth v < 8
  · have he := oth_end v (oth v) rfl h
    generalize oth v = k at *
    obtain rfl | rfl | rfl | rfl | rfl | rfl | rfl | rfl : k = 0 ∨ k = 1 ∨ k = 2 ∨ k = 3 ∨ k = 4 ∨ k = 5 ∨ k = 6 ∨ k = 7 := by omega
    all_goals
      simp only [Nat.reduceMul, Nat.reduceAdd, Nat.reduceSub, Nat.reducePow] at he ⊢
      omega
  · have h8 : oth v = 8 := by omega
    rw [h8]
    simp only [Nat.reduceSub, Nat.reducePow]
    omega
theorem first_lo (v : Int) (h0 : 0 ≤ v) (h1 : v ≤ 18446744073709551615) : lo (firstB v (oth v)) = oth v ∧ topV (firstB v (oth v)) (oth v) = v / ((256 ^ oth v : Nat) : Int) ∧ 0 ≤ firstB v (oth v) ∧ firstB v (oth v) < 256 := by
  obtain ⟨z0, z1⟩ := top_lt v h0 h1
  have hk := oth_le v
  obtain ⟨z, hz⟩ : ∃ z : Nat, v / ((256 ^ oth v : Nat) : Int) = z := ⟨(v / ((256 ^ oth v : Nat) : Int)).toNat, by omega⟩
  unfold firstB
  rw [hz] at z1 ⊢
  have zk : z < 2 ^ (7 - oth v) := by omega
  have h2 : 2 ^ (7 - oth v) ≤ 2 ^ 7 := Nat.pow_le_pow_right (by omega) (by omega)
  have z128 : z < 128 := by omega
  have := first_aux ⟨oth v, by omega⟩ ⟨z, z128⟩ zk
  refine ⟨this.1, this.2, ?_, ?_⟩
  · have h3 : 2 ^ (8 - oth v) ≤ 2 ^ 8 := Nat.pow_le_pow_right (by omega) (by omega)
    have h4 : (2 : Nat) ^ 8 = 256 := rfl
    omega
  · have h3 : 2 ^ (7 - oth v) ≤ 2 ^ (8 - oth v) := Nat.pow_le_pow_right (by omega) (by omega)
    have h4 : 0 < 2 ^ (8 - oth v) := Nat.two_pow_pos _
    omega
theorem byteI_range (v : Int) (j : Nat) : 0 ≤ byteI v j ∧ byteI v j < 256 := by unfold byteI; omega
theorem bigV_rest (v : Int) (k j : Nat) (hj : j ≤ k) : bigV (v / ((256 ^ k : Nat) : Int)) (restB v k j) = v / ((256 ^ (k - j) : Nat) : Int) := by
  induction j with
  | zero => simp [restB, bigV]
  | succ j ih =>
    rw [restB_succ, bigV_snoc, ih (by omega)]
    obtain ⟨m, hm⟩ : ∃ m, k - j = m + 1 := ⟨k - j - 1, by omega⟩
    have e1 : k - 1 - j = m := by omega
    have e2 : k - (j + 1) = m := by omega
    rw [hm, e1, e2]
    unfold byteI
    have e3 : ((256 ^ (m + 1) : Nat) : Int) = ((256 ^ m : Nat) : Int) * 256 := by rw [Nat.pow_succ, Int.natCast_mul]; rfl
    rw [e3, ← Int.ediv_ediv_of_nonneg (Int.natCast_nonneg _)]
    omega
theorem lookF_numB (l rest : List Int) (t : Nat) (v : Int) (h0 : 0 ≤ v) (h1 : v ≤ 18446744073709551615) (h : l.drop t = numB v ++ rest) : lookF l t = (v, 1 + oth v, 0) := by
  obtain ⟨f1, f2, f3, f4⟩ := first_lo v h0 h1
  have hlen : l.length - t = 1 + oth v + rest.length := by
    have := congrArg List.length h
    rw [List.length_drop, List.length_append, numB_length] at this; exact this
  have hg : l.getD t 0 = firstB v (oth v) := by
    have : (l.drop t)[0]? = some (firstB v (oth v)) := by rw [h]; rfl
    rw [List.getElem?_drop] at this
    rw [List.getD_eq_getElem?_getD]
    simp only [Nat.add_zero] at this
    rw [this]; rfl
  have hr : (l.drop (t + 1)).take (oth v) = restB v (oth v) (oth v) := by
    rw [← List.drop_drop, h]
    have e : numB v ++ rest = firstB v (oth v) :: (restB v (oth v) (oth v) ++ rest) := rfl
    rw [e, List.drop_succ_cons, List.drop_zero, List.take_append_of_le_length (by rw [restB_length]; omega), List.take_of_length_le (by rw [restB_length]; omega)]
  have hb : bigV (v / ((256 ^ oth v : Nat) : Int)) (restB v (oth v) (oth v)) = v := by rw [bigV_rest v _ _ (Nat.le_refl _)]; simp
  unfold lookF
  rw [if_neg (by omega), hg, f1, f2, if_neg (by omega), hr, hb, if_neg (by omega)]

/-- A fixed number's value. -/
def leV (bs : List Int) : Nat → Int
  | 0 => 0
  | k + 1 => leV bs k + bs.getD k 0 * ((256 ^ k : Nat) : Int)
def hiV (bs : List Int) : Nat → Int
  | 0 => 0
  | k + 1 => 256 * hiV bs k + bs.getD (7 - k) 0
theorem hiV_leV (bs : List Int) : hiV bs 8 = leV bs 8 := by
  simp only [hiV, leV, Nat.reduceSub, Nat.reducePow]
  omega
theorem leV_range (bs : List Int) (hb : ∀ x ∈ bs, 0 ≤ x ∧ x < 256) (k : Nat) : 0 ≤ leV bs k ∧ leV bs k < ((256 ^ k : Nat) : Int) := by
  induction k with
  | zero => simp [leV]
  | succ k ih =>
    have hd : 0 ≤ bs.getD k 0 ∧ bs.getD k 0 ≤ 255 := by
      rw [List.getD_eq_getElem?_getD]
      cases h : bs[k]? with
      | none => simp
      | some x => have := hb x (List.mem_of_getElem? h); simp; omega
    unfold leV
    obtain ⟨P, hP⟩ : ∃ P : Int, P = ((256 ^ k : Nat) : Int) := ⟨_, rfl⟩
    have e : ((256 ^ (k + 1) : Nat) : Int) = P * 256 := by rw [Nat.pow_succ, Int.natCast_mul, hP]; rfl
    rw [← hP] at ih ⊢
    rw [e]
    have p0 : 0 ≤ P := by omega
    have m1 : 0 ≤ bs.getD k 0 * P := Int.mul_nonneg hd.1 p0
    have m2 : bs.getD k 0 * P ≤ 255 * P := Int.mul_le_mul_of_nonneg_right hd.2 p0
    omega
theorem leV_fix (v : Int) (h0 : 0 ≤ v) (k : Nat) (bs : List Int) (hk : ∀ j, j < k → bs.getD j 0 = byteI v j) : leV bs k = v % ((256 ^ k : Nat) : Int) := by
  induction k with
  | zero => simp [leV]
  | succ k ih =>
    unfold leV
    rw [ih (fun j hj => hk j (by omega)), hk k (by omega)]
    obtain ⟨n, rfl⟩ : ∃ n : Nat, v = n := ⟨v.toNat, by omega⟩
    unfold byteI
    have := Nat.mod_mul (x := n) (a := 256 ^ k) (b := 256)
    rw [Nat.pow_succ]
    have h2 : ((n % (256 ^ k * 256) : Nat) : Int) = ((n % 256 ^ k + 256 ^ k * (n / 256 ^ k % 256) : Nat) : Int) := by rw [this]
    rw [Int.natCast_emod] at h2
    rw [h2, Int.natCast_add, Int.natCast_mul, Int.natCast_emod, Int.natCast_emod, Int.natCast_ediv, Int.mul_comm (((n : Int) / ((256 ^ k : Nat) : Int)) % 256)]
    rfl
theorem leV_fixB (v : Int) (h0 : 0 ≤ v) (h1 : v ≤ 18446744073709551615) : leV (fixB v) 8 = v := by
  rw [leV_fix v h0 8 _ (fun j hj => by
    unfold fixB fixK
    rw [List.getD_eq_getElem?_getD, List.getElem?_map, List.getElem?_range hj]; rfl)]
  simp only [Nat.reducePow]; omega
theorem or_shift (V c : Int) (i : Nat) (hi : i < 8) (h0 : 0 ≤ V) (h1 : V < ((256 ^ i : Nat) : Int)) (c0 : 0 ≤ c) (c1 : c < 256) :
    IntKind.u64.wrap (c * ((256 ^ i : Nat) : Int)) = c * ((256 ^ i : Nat) : Int) ∧ bits .or .u64 V (c * ((256 ^ i : Nat) : Int)) = V + c * ((256 ^ i : Nat) : Int) := by
  obtain ⟨a, rfl⟩ : ∃ a : Nat, V = a := ⟨V.toNat, by omega⟩
  obtain ⟨d, rfl⟩ : ∃ d : Nat, c = d := ⟨c.toNat, by omega⟩
  have hp : 256 ^ i = 2 ^ (8 * i) := by rw [Nat.pow_mul]
  have h7 : 256 ^ i ≤ 256 ^ 7 := Nat.pow_le_pow_right (by decide) (by omega)
  have h8 : (256 : Nat) ^ 7 = 72057594037927936 := by decide
  have hm : d * 256 ^ i ≤ 255 * 256 ^ i := Nat.mul_le_mul_right _ (by omega)
  have ea : a < 256 ^ i := by omega
  have e1 : (d : Int) * ((256 ^ i : Nat) : Int) = ((d * 256 ^ i : Nat) : Int) := by rw [Int.natCast_mul]
  rw [e1]
  refine ⟨wrap_u64_of _ (by omega) (by omega), ?_⟩
  rw [u64_or _ _ (by omega) (by omega) (by omega) (by omega), Int.toNat_natCast, Int.toNat_natCast, Nat.or_comm, nat_join (8 * i) _ _ (by rw [hp]; exact Nat.mul_mod_left _ _) (by rw [← hp]; exact ea)]
  omega

/-- A slice of bytes, as a text. -/
theorem SliceAt.run_str {P : Program} {w : World} {v : Value} {ao : Option Addr} {c : Nat} {l : List Int} (h : SliceAt w v ao l.length c (u8s l)) (src e dst : TypeId) (hs : P.underlying src = some (.slice e)) (he : P.underlying e = some (.int .u8)) (hd : P.underlying dst = some .string) :
    (convert src dst v).run P w = .ok (.string (strOfNums l)) w := by
  obtain rfl := h.val
  rcases Nat.eq_zero_or_pos l.length with h0 | h0
  · obtain rfl : l = [] := List.eq_nil_of_length_eq_zero h0
    cases ao with
    | none => exact run_convert_bytes_nil w src e hs he 0 c dst hd
    | some a =>
      rw [run_convert_bytes_string w src dst e _ _ c hs he hd]
      simp [Conv.bytesToString, loadCells, loadCellsFrom]
      rfl
  · obtain ⟨g, off, rfl, hc⟩ := h.addr h0
    exact run_convert_bytes_arg w src e hs he g off l.length c l rfl hc dst hd
theorem wown_base {w : World} {B B' : Nat} {E : TypeId} {s n : Nat} {v : Value} {xs : List Value} (h : w.ownsRow B E s v n xs) (hb : B' ≤ B) : w.ownsRow B' E s v n xs := by
  refine ⟨h.1, ?_⟩
  rcases h.2 with h0 | ⟨g, cap, cur, e, hg, rest⟩
  · exact .inl h0
  · exact .inr ⟨g, cap, cur, e, Nat.le_trans hb hg, rest⟩
theorem nextF_taken (l : List Int) (t : Nat) (e n : Int) (ht : t ≤ l.length) : t + (nextF l t e n).2.1 ≤ l.length := by
  unfold nextF
  split
  · simpa using ht
  · split
    · simpa using ht
    · split
      · simpa using ht
      · simp only; omega
theorem nextF_len (l : List Int) (t : Nat) (e n : Int) : (nextF l t e n).1.length ≤ l.length := by
  unfold nextF
  split
  · simp
  · split
    · simp
    · split
      · simp
      · simp only [List.length_take, List.length_drop]; omega
end Go.Proofs.Ytiiibhdohlpodaa

-- Q7
namespace Go.Proofs.Ytiiibhdohlpodaa
open Go.RowKit
attribute [local go_sem ↓] Go.wp_at_zero Go.wp_at_succ

theorem nextF_err {l : List Int} {t : Nat} {e n : Int} (h : (nextF l t e n).2.2 ≠ 0) : (nextF l t e n).1 = [] ∧ (nextF l t e n).2.1 = 0 := by
  unfold nextF at h ⊢
  split
  · exact ⟨rfl, rfl⟩
  · split
    · exact ⟨rfl, rfl⟩
    · split
      · exact ⟨rfl, rfl⟩
      · rename_i h1 h2 h3
        rw [if_neg h1, if_neg h2, if_neg h3] at h
        exact absurd rfl h

/-- What Text answers. -/
def textF (l : List Int) (t : Nat) (e most : Int) : List Int × Nat × Int :=
  if (nextF l (t + (countF l t e most).2.1) (countF l t e most).2.2 (countF l t e most).1).2.2 ≠ 0 then ([], 0, (nextF l (t + (countF l t e most).2.1) (countF l t e most).2.2 (countF l t e most).1).2.2)
  else ((nextF l (t + (countF l t e most).2.1) (countF l t e most).2.2 (countF l t e most).1).1, (countF l t e most).2.1 + (nextF l (t + (countF l t e most).2.1) (countF l t e most).2.2 (countF l t e most).1).2.1, 0)

/-- What Fix answers. -/
def fixF (l : List Int) (t : Nat) (e : Int) : Int × Nat × Int := if (nextF l t e 8).2.2 ≠ 0 then (0, 0, (nextF l t e 8).2.2) else (leV (l.drop t) 8, 8, 0)

theorem leV_take (l : List Int) (n k : Nat) (h : k ≤ n) : leV (l.take n) k = leV l k := by
  induction k with
  | zero => rfl
  | succ k ih =>
    unfold leV
    rw [ih (by omega), List.getD_eq_getElem?_getD, List.getElem?_take, if_pos (by omega), List.getD_eq_getElem?_getD]

/-- What the document reads as a fixed number. -/
def getFixF (l : List Int) (t : Nat) : Int × Nat × Int := if l.length - t < 8 then (0, 0, 2) else (leV (l.drop t) 8, 8, 0)

end Go.Proofs.Ytiiibhdohlpodaa

-- Q3
namespace Go.Proofs.Ytiiibhdohlpodaa
open Go.RowKit
attribute [local go_sem ↓] Go.wp_at_zero Go.wp_at_succ

/-- A word's bytes. -/
def wordB (r : WRec) : List Int :=
  if r.k = 0 then numB r.v else if r.k = 1 then numB (zigI r.n) else if r.k = 2 then fixB r.v else if r.k = 3 then numB r.s.size ++ strB r.s else if r.k = 4 then strB r.s else []

theorem wafter {S : Nat → Prop} {W w w1 : World} (h : Kept (fun _ => False) W w) (k : Kept S w w1) (hs : ∀ k, S k → W.heap.size ≤ k) : Kept (fun _ => False) W w1 :=
  h.step k (fun j hj hS => by have := hs j hS; omega)

theorem own_ne_box {w : World} {B : Nat} {E T : TypeId} {v : Value} {n s : Nat} {xs : List Value} {p : Nat} {cs : Array Value} (h : w.ownsRow B E s v n xs) (hp : w.heap[p]? = some (.cells cs T (0, 0))) (hne : E ≠ T) : v.ownBlock ≠ some p := by
  intro e
  obtain ⟨c, hc⟩ := ownsRow_block h e
  rw [hc] at hp
  injection hp with hp
  injection hp with _ ht
  exact hne ht

theorem wbox_cells {T : TypeId} {pb : Nat} {k n x : Int} {s : ByteArray} : ∀ w' : World, w'.heap[pb]? = some (.cells #[.int .i64 k, .int .i64 n, .int .u64 x, .string s] T (0, 0)) →
    w'.cell? ⟨pb, 1, none⟩ = some (.int .i64 n) ∧ w'.cell? ⟨pb, 2, none⟩ = some (.int .u64 x) ∧ w'.cell? ⟨pb, 3, none⟩ = some (.string s) := fun w' h =>
  ⟨by rw [cell_of_row w' pb 1 _ _ _ h]; rfl, by rw [cell_of_row w' pb 2 _ _ _ h]; rfl, by rw [cell_of_row w' pb 3 _ _ _ h]; rfl⟩

theorem numB_len (x : Int) : (numB x).length ≤ 9 := by rw [numB_length]; have := oth_le x; omega

end Go.Proofs.Ytiiibhdohlpodaa

-- Q8
namespace Go.Proofs.Ytiiibhdohlpodaa
open Go.RowKit

theorem strOf_strB (s : ByteArray) : strOfNums (strB s) = s := by
  unfold strOfNums strB
  obtain ⟨⟨l⟩⟩ := s
  congr 1
  have : (l.map fun (b : UInt8) => (b.toNat : Int)).map (fun n => UInt8.ofNat n.toNat) = l := by
    rw [List.map_map]
    refine (List.map_congr_left (g := id) (fun b _ => ?_)).trans (List.map_id l)
    simp
  rw [this]
theorem strB_byte (s : ByteArray) : ∀ x ∈ strB s, 0 ≤ x ∧ x < 256 := by
  intro x hx
  unfold strB at hx
  obtain ⟨b, _, rfl⟩ := List.mem_map.1 hx
  have := b.toNat_lt
  omega
theorem numB_byte (v : Int) (h0 : 0 ≤ v) (h1 : v ≤ 18446744073709551615) : ∀ x ∈ numB v, 0 ≤ x ∧ x < 256 := by
  intro x hx
  unfold numB at hx
  rcases List.mem_cons.1 hx with rfl | hx
  · exact ⟨(first_lo v h0 h1).2.2.1, (first_lo v h0 h1).2.2.2⟩
  · unfold restB at hx
    obtain ⟨j, _, rfl⟩ := List.mem_map.1 hx
    exact byteI_range _ _
theorem fixB_byte (v : Int) : ∀ x ∈ fixB v, 0 ≤ x ∧ x < 256 := by
  intro x hx
  unfold fixB fixK at hx
  obtain ⟨j, _, rfl⟩ := List.mem_map.1 hx
  exact byteI_range _ _
theorem wordB_byte (r : WRec) (hn : -9223372036854775808 ≤ r.n ∧ r.n ≤ 9223372036854775807) (hv : 0 ≤ r.v ∧ r.v ≤ 18446744073709551615) (hs : r.s.size ≤ 300) : ∀ x ∈ wordB r, 0 ≤ x ∧ x < 256 := by
  intro x hx
  unfold wordB at hx
  split at hx
  · exact numB_byte _ hv.1 hv.2 x hx
  · split at hx
    · have := zigI_range r.n hn.1 hn.2
      exact numB_byte _ this.1 this.2 x hx
    · split at hx
      · exact fixB_byte _ x hx
      · split at hx
        · rcases List.mem_append.1 hx with hx | hx
          · exact numB_byte _ (by omega) (by omega) x hx
          · exact strB_byte _ x hx
        · split at hx
          · exact strB_byte _ x hx
          · cases hx
theorem wordB_len (r : WRec) (hs : r.s.size ≤ 300) : (wordB r).length ≤ 400 := by
  unfold wordB
  split
  · have := numB_len r.v; omega
  · split
    · have := numB_len (zigI r.n); omega
    · split
      · simp [fixB]
      · split
        · rw [List.length_append, strB_length]; have := numB_len r.s.size; omega
        · split
          · rw [strB_length]; omega
          · simp

theorem next_back (l bs rest : List Int) (t : Nat) (n : Int) (hn : n = bs.length) (h : l.drop t = bs ++ rest) (ht : t ≤ l.length) : nextF l t 0 n = (bs, bs.length, 0) := by
  subst hn
  have hlen : l.length - t = bs.length + rest.length := by
    have := congrArg List.length h
    rw [List.length_drop, List.length_append] at this; exact this
  unfold nextF
  rw [if_neg (by simp), if_neg (by omega), if_neg (by omega), Int.toNat_natCast, h, List.take_append_of_le_length (Nat.le_refl _), List.take_of_length_le (Nat.le_refl _)]
theorem leV_append (a b : List Int) (k : Nat) (h : k ≤ a.length) : leV (a ++ b) k = leV a k := by
  induction k with
  | zero => rfl
  | succ k ih =>
    unfold leV
    rw [ih (by omega), List.getD_eq_getElem?_getD, List.getElem?_append_left (by omega), List.getD_eq_getElem?_getD]
theorem fix_back (l rest : List Int) (t : Nat) (v : Int) (h0 : 0 ≤ v) (h1 : v ≤ 18446744073709551615) (h : l.drop t = fixB v ++ rest) (ht : t ≤ l.length) : fixF l t 0 = (v, 8, 0) := by
  have hl : (fixB v).length = 8 := by simp [fixB]
  have hn := next_back l (fixB v) rest t 8 (by rw [hl]; rfl) h ht
  unfold fixF
  rw [hn, if_neg (by simp), h, leV_append _ _ _ (by omega), leV_fixB v h0 h1]
theorem text_back (l rest : List Int) (t : Nat) (s : ByteArray) (hs : s.size ≤ 300) (h : l.drop t = numB s.size ++ strB s ++ rest) (ht : t ≤ l.length) : textF l t 0 300 = (strB s, (numB s.size ++ strB s).length, 0) := by
  have hlk : lookE l t 0 = ((s.size : Int), 1 + oth s.size, 0) := by
    unfold lookE
    rw [if_pos rfl]
    exact lookF_numB l (strB s ++ rest) t s.size (by omega) (by omega) (by rw [h, List.append_assoc])
  have hc : countF l t 0 300 = ((s.size : Int), 1 + oth s.size, 0) := by
    unfold countF
    rw [hlk, if_neg (by simp only; omega)]
  have hlen : l.length - t = 1 + oth s.size + s.size + rest.length := by
    have := congrArg List.length h
    rw [List.length_drop, List.length_append, List.length_append, numB_length, strB_length] at this; exact this
  have hd : l.drop (t + (1 + oth s.size)) = strB s ++ rest := by
    rw [← List.drop_drop, h, List.append_assoc]
    have e : 1 + oth s.size = (numB s.size).length := by rw [numB_length]
    rw [e, List.drop_left]
  have hn := next_back l (strB s) rest (t + (1 + oth s.size)) s.size (by rw [strB_length]) hd (by omega)
  unfold textF
  rw [hc]
  simp only
  rw [hn, if_neg (by simp), List.length_append, numB_length]
theorem num_back (l rest : List Int) (t : Nat) (v : Int) (h0 : 0 ≤ v) (h1 : v ≤ 18446744073709551615) (h : l.drop t = numB v ++ rest) : lookE l t 0 = (v, (numB v).length, 0) := by
  unfold lookE
  rw [if_pos rfl, numB_length]
  exact lookF_numB l rest t v h0 h1 h
/-- The bytes of words. -/
def wordsB (rs : List WRec) : List Int := rs.flatMap wordB
theorem wordsB_snoc (rs : List WRec) (i : Nat) (hi : i < rs.length) : wordsB (rs.take (i + 1)) = wordsB (rs.take i) ++ wordB rs[i] := by
  unfold wordsB
  rw [List.take_add_one, List.getElem?_eq_getElem hi, List.flatMap_append]
  simp only [Option.toList, List.flatMap_cons, List.flatMap_nil, List.append_nil]
theorem wordsB_drop (rs : List WRec) (i : Nat) (hi : i < rs.length) : wordsB (rs.drop i) = wordB rs[i] ++ wordsB (rs.drop (i + 1)) := by
  unfold wordsB
  rw [List.drop_eq_getElem_cons hi, List.flatMap_cons]
theorem drop_more {l a b : List Int} {t : Nat} (h : l.drop t = a ++ b) : l.drop (t + a.length) = b := by
  rw [← List.drop_drop, h, List.drop_left]
theorem RdAt.less {T E : TypeId} {w : World} {B B' p : Nat} {v : Value} {l : List Int} {t : Nat} {e : Int} (h : RdAt T E w B p v l t e) (hb : B' ≤ B) : RdAt T E w B' p v l t e :=
  ⟨Nat.le_trans hb h.base, h.box, wown_base h.owns hb, h.apart, h.taken, h.byte⟩
end Go.Proofs.Ytiiibhdohlpodaa

-- PK
namespace Go.Proofs.Ytiiibhdohlpodaa
open Go.RowKit
attribute [local go_sem ↓] Go.wp_at_zero Go.wp_at_succ

/-- What Done answers. -/
def doneF (l : List Int) (t : Nat) (e : Int) : Int := if e ≠ 0 then e else if t = l.length then 0 else 3
end Go.Proofs.Ytiiibhdohlpodaa

-- G1
namespace Go.Proofs.Ytiiibhdohlpodaa
open Go.RowKit

/-- The value v is a slice whose elements, of one cell each, read as xs. -/
structure SlAt (w : World) (v : Value) (xs : List Value) : Prop where
  val : ∃ ao c, v = .slice ao xs.length c ∧ (ao = none → xs = []) ∧ ∀ a, ao = some a → ∀ j u, xs[j]? = some u → w.cell? (a.add j) = some u

theorem addr_add0 (g j : Nat) : (⟨g, 0, none⟩ : Addr).add j = ⟨g, j, none⟩ := by unfold Addr.add; split <;> simp_all
theorem add_block (a : Addr) (j : Nat) : (a.add j).block = a.block := by unfold Addr.add; split <;> rfl

theorem SlAt.src {P : Program} {w : World} {v : Value} {xs : List Value} (h : SlAt w v xs) {t e : TypeId} (hk : P.underlying t = some (.slice e)) (h1 : ∀ u ∈ xs, u.oneCell' = true) : Src P 1 t v xs.length xs w := by
  obtain ⟨ao, c, rfl, hn, hc⟩ := h.val
  cases ao with
  | none =>
    obtain rfl := hn rfl
    exact Src.ofNil _ hk _
  | some a => exact Src.ofSlice _ hk _ xs.length c xs (by omega) (hc a rfl) h1
theorem SlAt.kept {S : Nat → Prop} {w w' : World} {v : Value} {xs : List Value} (h : SlAt w v xs) (hk : Kept S w w') (hn : ∀ k, v.ownBlock = some k → ¬ S k) : SlAt w' v xs := by
  obtain ⟨ao, c, rfl, hz, hc⟩ := h.val
  refine ⟨ao, c, rfl, hz, fun a ha j u hu => ?_⟩
  refine hk.cell (hc a ha j u hu) ?_
  subst ha
  rw [add_block]
  exact hn _ rfl
theorem SlAt.ofOwn {w : World} {base : Nat} {e : TypeId} {v : Value} {n : Nat} {xs : List Value} (ho : w.ownsRow base e 1 v n xs) : SlAt w v xs := by
  obtain ⟨a, cap, rfl⟩ := ownsRow_slice ho
  have hl : xs.length = n := by simpa using ho.1
  subst hl
  refine ⟨a, cap, rfl, ?_, ?_⟩
  · rintro rfl
    rcases ho.2 with ⟨_, h⟩ | ⟨g, cap, cur, e, _⟩
    · exact List.eq_nil_of_length_eq_zero h
    · cases e
  · rintro a rfl j u hu
    rcases ho.2 with ⟨e, _⟩ | ⟨g, cap', cur, e, _⟩
    · cases e
    · injection e with e1 e2 e3
      injection e1 with e1
      subst e1
      exact ho.cells rfl j u hu

theorem SlAt.addr {w : World} {v : Value} {xs : List Value} (h : SlAt w v xs) (hp : 0 < xs.length) :
    ∃ g off c, v = .slice (some ⟨g, off, none⟩) xs.length c ∧ ∀ j u, xs[j]? = some u → w.cell? ⟨g, off + j, none⟩ = some u := by
  obtain ⟨ao, c, rfl, hn, hc⟩ := h.val
  cases ao with
  | none => rw [hn rfl] at hp; exact absurd hp (by simp)
  | some a =>
    obtain ⟨b, off, spot⟩ := a
    have h0 := hc _ rfl 0 xs[0] (List.getElem?_eq_getElem hp)
    have hspot : spot = Option.none := by simpa [Addr.add] using World.cell?_spot h0
    subst hspot
    exact ⟨b, off, c, rfl, fun j u hu => by rw [← Go.WideShapes.add_plain]; exact hc _ rfl j u hu⟩

theorem SlAt.elem {w : World} {ao : Option Addr} {n c : Nat} {xs : List Value} (h : SlAt w (.slice ao n c) xs) {i : Nat} {u : Value} (hu : xs[i]? = some u) : ∃ g off, ao = some ⟨g, off, none⟩ ∧ w.cell? ⟨g, off + i, none⟩ = some u := by
  have hi := (List.getElem?_eq_some_iff.1 hu).1
  obtain ⟨g, off, c', e, hc⟩ := h.addr (by omega)
  injection e with e1 e2 e3
  exact ⟨g, off, e1, hc i u hu⟩
theorem SlAt.len {w : World} {ao : Option Addr} {n c : Nat} {xs : List Value} (h : SlAt w (.slice ao n c) xs) : xs.length = n := by
  obtain ⟨_, _, e, _⟩ := h.val
  injection e with e1 e2 e3
  exact e2.symm
theorem run_cut {P : Program} {t E : TypeId} {i : TypeInfo} (ht : P.underlying t = some (.slice E)) (hi : P.info? E = some i) (hs : i.size = 1) (a : Option Addr) (len cap lo hi' : Nat) (hlo : lo ≤ hi') (hhi : hi' ≤ cap) (w : World) :
    (Instr.slice t (.slice a len cap) (some (.int .i64 (lo : Int))) (some (.int .i64 (hi' : Int))) none).run P w = .ok (.slice (if cap = lo then a else a.map (·.add lo)) (hi' - lo) (cap - lo)) w := by
  have he : P.elem t = E := by simp [Program.elem, ht]
  rw [run_slice_lh w t a len cap (by rw [he]; exact ht) .i64 .i64 lo hi' (by omega) (by omega) (by omega), he]
  simp [sizeOf, typeInfo, hi, hs, sliced]
theorem run_cutAt {P : Program} {t E : TypeId} {i : TypeInfo} (ht : P.underlying t = some (.slice E)) (hi : P.info? E = some i) (hs : i.size = 1) (a : Option Addr) (len cap lo hi' : Nat) (hlo : lo ≤ hi') (hhi : hi' ≤ cap) (w : World) :
    (Instr.sliceAt t (.slice a len cap) (some (.int .i64 (lo : Int))) (some (.int .i64 (hi' : Int))) none).run P w = .ok (.slice (if cap = lo then a else a.map (·.add lo)) (hi' - lo) (cap - lo)) w := by
  have he : P.elem t = E := by simp [Program.elem, ht]
  rw [run_sliceAt_slice w t _ _ _ _ (by rw [he]; exact ht)]
  exact run_cut ht hi hs a len cap lo hi' hlo hhi w
theorem add_add (a : Addr) (i j : Nat) : (a.add i).add j = a.add (i + j) := by
  unfold Addr.add
  by_cases hi : i = 0 <;> by_cases hj : j = 0 <;> simp [hi, hj, Nat.add_assoc]
theorem SlAt.cut {w : World} {ao : Option Addr} {n c : Nat} {xs : List Value} (h : SlAt w (.slice ao n c) xs) {lo hi : Nat} (h1 : lo ≤ hi) (h2 : hi ≤ n) (h3 : n ≤ c) :
    SlAt w (.slice (if c = lo then ao else ao.map (·.add lo)) (hi - lo) (c - lo)) ((xs.drop lo).take (hi - lo)) := by
  have hl := h.len
  obtain ⟨ao', c', e, hn, hc⟩ := h.val
  injection e with e1 e2 e3
  subst e1; subst e3
  have hlen : ((xs.drop lo).take (hi - lo)).length = hi - lo := by rw [List.length_take, List.length_drop]; omega
  refine ⟨_, _, by rw [hlen], ?_, ?_⟩
  · intro h0
    have hz : ao = none ∨ c = lo := by
      by_cases hcl : c = lo
      · exact .inr hcl
      · rw [if_neg hcl] at h0
        cases ao with
        | none => exact .inl rfl
        | some a => cases h0
    apply List.eq_nil_of_length_eq_zero
    rw [hlen]
    rcases hz with h0 | h0
    · have := hn h0; rw [this] at hl; simp at hl; omega
    · omega
  · intro a ha j u hu
    have hj : j < hi - lo := by have := (List.getElem?_eq_some_iff.1 hu).1; omega
    rw [if_neg (by omega)] at ha
    cases ao with
    | none => cases ha
    | some b =>
      cases ha
      rw [add_add]
      rw [List.getElem?_take, if_pos hj, List.getElem?_drop] at hu
      exact hc b rfl _ u hu
theorem own_cap {w : World} {B : Nat} {E : TypeId} {ao : Option Addr} {s n m c : Nat} {xs : List Value} (h : w.ownsRow B E s (.slice ao n c) m xs) : m ≤ c := by
  rcases h.2 with ⟨e, h0⟩ | ⟨g, cap, cur, e, _, _, hm, _⟩
  · omega
  · injection e with e1 e2 e3; omega

theorem add_zero' (a : Addr) : a.add 0 = a := by unfold Addr.add; simp
theorem run_cutH {P : Program} {t E : TypeId} {i : TypeInfo} (ht : P.underlying t = some (.slice E)) (hi : P.info? E = some i) (hs : i.size = 1) (a : Option Addr) (len cap h : Nat) (hhi : h ≤ cap) (w : World) :
    (Instr.slice t (.slice a len cap) none (some (.int .i64 (h : Int))) none).run P w = .ok (.slice a h cap) w := by
  have he : P.elem t = E := by simp [Program.elem, ht]
  rw [run_slice_h w t a len cap (by rw [he]; exact ht) .i64 h (by omega) (by omega), he]
  have e : (a.map fun x => x.add 0) = a := by cases a <;> simp [add_zero']
  simp [sizeOf, typeInfo, hi, hs, sliced, e]
theorem run_cutHAt {P : Program} {t E : TypeId} {i : TypeInfo} (ht : P.underlying t = some (.slice E)) (hi : P.info? E = some i) (hs : i.size = 1) (a : Option Addr) (len cap h : Nat) (hhi : h ≤ cap) (w : World) :
    (Instr.sliceAt t (.slice a len cap) none (some (.int .i64 (h : Int))) none).run P w = .ok (.slice a h cap) w := by
  have he : P.elem t = E := by simp [Program.elem, ht]
  rw [run_sliceAt_slice w t _ _ _ _ (by rw [he]; exact ht)]
  exact run_cutH ht hi hs a len cap h hhi w
theorem SlAt.takeH {w : World} {ao : Option Addr} {n c : Nat} {xs : List Value} (h : SlAt w (.slice ao n c) xs) {k : Nat} (hk : k ≤ n) : SlAt w (.slice ao k c) (xs.take k) := by
  have hl := h.len
  obtain ⟨ao', c', e, hn, hc⟩ := h.val
  injection e with e1 e2 e3
  subst e1; subst e3
  refine ⟨ao, c, by rw [List.length_take, Nat.min_eq_left (by omega)], fun h0 => by rw [hn h0]; simp, fun a ha j u hu => hc a ha j u ?_⟩
  rw [List.getElem?_take] at hu
  split at hu
  · exact hu
  · cases hu
theorem own_takeH {w : World} {B : Nat} {E : TypeId} {ao : Option Addr} {n c : Nat} {xs : List Value} (h : w.ownsRow B E 1 (.slice ao n c) n xs) {k : Nat} (hk : k ≤ n) : w.ownsRow B E 1 (.slice ao k c) k (xs.take k) := by
  refine ⟨by rw [List.length_take, h.1]; omega, ?_⟩
  rcases h.2 with ⟨e, h0⟩ | ⟨g, cap, cur, e, hb, hg, hnc, hcm, hcs, ht⟩
  · injection e with e1 e2 e3
    subst e1; subst e3
    exact .inl ⟨by rw [show k = 0 by omega], by omega⟩
  · injection e with e1 e2 e3
    subst e1; subst e3
    refine .inr ⟨g, c, cur, rfl, hb, hg, by omega, hcm, hcs, ?_⟩
    rw [← ht, List.take_take]
    congr 1
    omega

theorem run_cutL {P : Program} {t E : TypeId} {i : TypeInfo} (ht : P.underlying t = some (.slice E)) (hi : P.info? E = some i) (hs : i.size = 1) (a : Option Addr) (len cap lo : Nat) (hlo : lo ≤ len) (w : World) :
    (Instr.slice t (.slice a len cap) (some (.int .i64 (lo : Int))) none none).run P w = .ok (.slice (if cap = lo then a else a.map (·.add lo)) (len - lo) (cap - lo)) w := by
  have he : P.elem t = E := by simp [Program.elem, ht]
  rw [run_slice_l w t a len cap (by rw [he]; exact ht) .i64 lo (by omega) (by omega), he]
  simp [sizeOf, typeInfo, hi, hs, sliced]
theorem run_cutLAt {P : Program} {t E : TypeId} {i : TypeInfo} (ht : P.underlying t = some (.slice E)) (hi : P.info? E = some i) (hs : i.size = 1) (a : Option Addr) (len cap lo : Nat) (hlo : lo ≤ len) (w : World) :
    (Instr.sliceAt t (.slice a len cap) (some (.int .i64 (lo : Int))) none none).run P w = .ok (.slice (if cap = lo then a else a.map (·.add lo)) (len - lo) (cap - lo)) w := by
  have he : P.elem t = E := by simp [Program.elem, ht]
  rw [run_sliceAt_slice w t _ _ _ _ (by rw [he]; exact ht)]
  exact run_cutL ht hi hs a len cap lo hlo w
theorem SlAt.cutL {w : World} {ao : Option Addr} {n c : Nat} {xs : List Value} (h : SlAt w (.slice ao n c) xs) {lo : Nat} (h1 : lo ≤ n) (h3 : n ≤ c) :
    SlAt w (.slice (if c = lo then ao else ao.map (·.add lo)) (n - lo) (c - lo)) (xs.drop lo) := by
  have := h.cut (lo := lo) (hi := n) h1 (Nat.le_refl _) h3
  rwa [List.take_of_length_le (by rw [List.length_drop, h.len]; exact Nat.le_refl _)] at this

/-- A row of one-cell elements that was made behind the world W. -/
structure Mine (W w : World) (E : TypeId) (v : Value) (xs : List Value) : Prop where
  own : w.ownsRow W.heap.size E 1 v xs.length xs
  kept : Kept (fun _ => False) W w
theorem Mine.nil (w : World) (E : TypeId) : Mine w w E (.slice none 0 0) [] := ⟨World.ownsRow_nil _ _ _ _, Kept.refl _ _⟩
theorem Mine.nil' {W w : World} (E : TypeId) (h : Kept (fun _ => False) W w) : Mine W w E (.slice none 0 0) [] := ⟨World.ownsRow_nil _ _ _ _, h⟩
theorem Mine.on {W w w' : World} {E : TypeId} {v : Value} {xs : List Value} (h : Mine W w E v xs) (hk : Kept (fun _ => False) w w') : Mine W w' E v xs := ⟨hk.owns h.own (fun _ _ x => x), h.kept.trans hk⟩
theorem Mine.alloc {W w : World} {E : TypeId} {v : Value} {xs : List Value} (h : Mine W w E v xs) (o : Obj) : Mine W (w.alloc o) E v xs := h.on ((Kept.refl _ _).alloc o)
theorem Mine.down {W W0 w : World} {E : TypeId} {v : Value} {xs : List Value} (h : Mine W w E v xs) (hk : Kept (fun _ => False) W0 W) : Mine W0 w E v xs := by
  refine ⟨⟨h.own.1, ?_⟩, hk.trans h.kept⟩
  rcases h.own.2 with h0 | ⟨g, cap, cur, e, hg, rest⟩
  · exact .inl h0
  · exact .inr ⟨g, cap, cur, e, Nat.le_trans hk.size hg, rest⟩
theorem Mine.at_ {W w : World} {E : TypeId} {v : Value} {xs : List Value} (h : Mine W w E v xs) : SlAt w v xs := SlAt.ofOwn h.own
theorem Mine.slice {W w : World} {E : TypeId} {v : Value} {xs : List Value} (h : Mine W w E v xs) : ∃ a c, v = .slice a xs.length c := ownsRow_slice h.own
theorem Mine.ofFresh {W w : World} {E : TypeId} {v : Value} {n : Nat} {xs : List Value} (h : w.ownsRow W.heap.size E 1 v n xs) (hk : Kept (fun _ => False) W w) : Mine W w E v xs := by
  have : xs.length = n := by simpa using h.1
  subst this
  exact ⟨h, hk⟩

theorem wpList_mine {P : Program} {ops : Array Oper} {rest : List Oper} {o : Oper} {a : Act} {Q : Exit → Act → World → Prop} {w : World} (hgd : o.guard = none) (s x : Operand) (t tx : TypeId)
    (ho : o.op = .call { callee := .builtin .append, args := #[s, x], argTypes := #[t, tx] })
    (e : TypeId) (i : TypeInfo) (z : Value) (bytes : Nat) (ht : P.underlying t = some (.slice e)) (hi : P.info? e = some i) (hz : i.zero = some z)
    (hsize : i.size = 1) (hby : i.bytes = bytes) (hzs : z.cells.size = 1) (hb : bytes ≤ 64)
    (W : World) (v : Value) (xs : List Value) (hv : a.eval s = v) (hm : Mine W w e v xs)
    (y : Value) (news : List Value) (hy : a.eval x = y) (hs : Src P 1 tx y news.length news w)
    (hl : xs.length + news.length ≤ 1000000000000)
    (h : ∀ v' w', Mine W w' e v' (xs ++ news) → wpList P ops Q rest (a.put o.dst v') w') : wpList P ops Q (o :: rest) a w := by
  refine wpList_append_src w hgd s x t tx ho W.heap.size e i z 1 bytes ht hi hz hsize hby hzs v xs.length xs hv hm.own y news.length news hy hs (by unfold maxLen; omega) ?_ hm.kept.size ?_
  · have := Nat.mul_le_mul hl hb; omega
  · intro v' w' hown hg _ _
    refine h v' w' ⟨by rw [List.length_append]; exact hown, hm.kept.grown hg (fun k e hlt => ?_)⟩
    have := (ownsRow_lt hm.own e).2; omega
theorem Kept.newer {W w w' : World} {S : Nat → Prop} (h : Kept (fun _ => False) W w) (k : Kept S w w') (hs : ∀ i, S i → W.heap.size ≤ i) : Kept (fun _ => False) W w' := h.step k (fun i hi x => by have := hs i x; omega)
theorem Kept.newest {W w w' : World} {S : Nat → Prop} (h : Kept (fun _ => False) W w) (k : Kept S w w') (hs : ∀ i, S i → W.heap.size ≤ i) : Kept (fun _ => False) W w' := h.newer k hs
theorem Mine.keptS {S : Nat → Prop} {W w w' : World} {E : TypeId} {v : Value} {xs : List Value} (h : Mine W w E v xs) (hk : Kept S w w') (hn : ∀ k, v.ownBlock = some k → ¬ S k) (hs : ∀ k, S k → W.heap.size ≤ k) : Mine W w' E v xs := ⟨hk.owns h.own hn, h.kept.newer hk hs⟩
theorem own_box {w : World} {B : Nat} {v : Value} {xs : List Value} {n s : Nat} {T E : TypeId} {cs : Array Value} {fr : Nat × Nat} {k : Nat} (ho : w.ownsRow B E s v n xs) (hb : w.heap[k]? = some (.cells cs T fr)) (hne : E ≠ T) : v.ownBlock ≠ some k := by
  intro e
  obtain ⟨cur, hc⟩ := ownsRow_block ho e
  rw [hb] at hc
  injection hc with this; injection this with _ e _
  exact hne e.symm
/-- The same, with what was turned. -/
theorem wpList_mine2 {P : Program} {ops : Array Oper} {rest : List Oper} {o : Oper} {a : Act} {Q : Exit → Act → World → Prop} {w : World} (hgd : o.guard = none) (s x : Operand) (t tx : TypeId)
    (ho : o.op = .call { callee := .builtin .append, args := #[s, x], argTypes := #[t, tx] })
    (e : TypeId) (i : TypeInfo) (z : Value) (bytes : Nat) (ht : P.underlying t = some (.slice e)) (hi : P.info? e = some i) (hz : i.zero = some z)
    (hsize : i.size = 1) (hby : i.bytes = bytes) (hzs : z.cells.size = 1) (hb : bytes ≤ 64)
    (W : World) (v : Value) (xs : List Value) (hv : a.eval s = v) (hm : Mine W w e v xs)
    (y : Value) (news : List Value) (hy : a.eval x = y) (hs : Src P 1 tx y news.length news w)
    (hl : xs.length + news.length ≤ 1000000000000)
    (h : ∀ v' w', Mine W w' e v' (xs ++ news) → Kept (fun k => v.ownBlock = some k) w w' → (v'.ownBlock = v.ownBlock ∨ v'.ownBlock = some w.heap.size) → wpList P ops Q rest (a.put o.dst v') w') : wpList P ops Q (o :: rest) a w := by
  refine wpList_append_src w hgd s x t tx ho W.heap.size e i z 1 bytes ht hi hz hsize hby hzs v xs.length xs hv hm.own y news.length news hy hs (by unfold maxLen; omega) ?_ hm.kept.size ?_
  · have := Nat.mul_le_mul hl hb; omega
  · intro v' w' hown hg _ hat
    refine h v' w' ⟨by rw [List.length_append]; exact hown, hm.kept.grown hg (fun k e hlt => ?_)⟩ ((Kept.refl (fun k => v.ownBlock = some k) w).grown hg (fun k e _ => e)) hat
    have := (ownsRow_lt hm.own e).2; omega
/-- At a step of a region that draws its order. -/
theorem step_mine {P : Program} {ops : Array Oper} {o : Oper} {a : Act} {K : Act → World → Prop} {Q : Exit → Act → World → Prop} {E : Prop} {w : World} (hgd : o.guard = none) (s x : Operand) (t tx : TypeId)
    (ho : o.op = .call { callee := .builtin .append, args := #[s, x], argTypes := #[t, tx] })
    (e : TypeId) (i : TypeInfo) (z : Value) (bytes : Nat) (ht : P.underlying t = some (.slice e)) (hi : P.info? e = some i) (hz : i.zero = some z)
    (hsize : i.size = 1) (hby : i.bytes = bytes) (hzs : z.cells.size = 1) (hb : bytes ≤ 64)
    (W : World) (v : Value) (xs : List Value) (hv : a.eval s = v) (hm : Mine W w e v xs)
    (y : Value) (news : List Value) (hy : a.eval x = y) (hs : Src P 1 tx y news.length news w)
    (hl : xs.length + news.length ≤ 1000000000000)
    (h : ∀ v' w', Mine W w' e v' (xs ++ news) → Kept (fun k => v.ownBlock = some k) w w' → (v'.ownBlock = v.ownBlock ∨ v'.ownBlock = some w.heap.size) → K (a.put o.dst v') w') :
    if Region.wanted o (yielded ops a.tmps) = true then Oper.wp P o a w K Q else E := by
  refine step_append_src w hgd s x t tx ho W.heap.size e i z 1 bytes ht hi hz hsize hby hzs v xs.length xs hv hm.own y news.length news hy hs (by unfold maxLen; omega) ?_ hm.kept.size ?_
  · have := Nat.mul_le_mul hl hb; omega
  · intro v' w' hown hg _ hat
    refine h v' w' ⟨by rw [List.length_append]; exact hown, hm.kept.grown hg (fun k e hlt => ?_)⟩ ((Kept.refl (fun k => v.ownBlock = some k) w).grown hg (fun k e _ => e)) hat
    have := (ownsRow_lt hm.own e).2; omega
theorem Mine.src {P : Program} {W w w' : World} {E t e : TypeId} {v : Value} {xs : List Value} (h : Mine W w E v xs) (hk : Kept (fun _ => False) w w') (ht : P.underlying t = some (.slice e)) (h1 : ∀ u ∈ xs, u.oneCell' = true) : Src P 1 t v xs.length xs w' := (h.on hk).at_.src ht h1

/-- A slice of integers that came in, as the row of its elements. -/
theorem IsRow.slAtI {k : IntKind} {w : World} {a : Option Addr} {len cap : Nat} {zs : List Int} (h : IsRow k w a len cap zs) :
    ∃ l : List Int, l.length = len ∧ (∀ x ∈ l, (Lit.int k x).wf = true) ∧ SlAt w (.slice a len cap) (l.map (Value.int k)) := by
  rcases h with ⟨rfl, rfl, rfl, rfl⟩ | ⟨x, rfl, hlc, _, hz, hcell, hwf⟩
  · exact ⟨[], rfl, by simp, ⟨none, 0, rfl, fun _ => rfl, by simp⟩⟩
  · refine ⟨zs.take len, by simp; omega, fun y hy => hwf y (List.mem_of_mem_take hy), ⟨some x, cap, ?_, (fun e => by cases e), ?_⟩⟩
    · rw [List.length_map, List.length_take, Nat.min_eq_left (by omega)]
    · intro a ha j u hu
      cases ha
      have hj : j < len := by
        have := (List.getElem?_eq_some_iff.1 hu).1
        simp at this; omega
      have hjz : j < zs.length := by omega
      rw [hcell j hjz, List.getD_eq_getElem?_getD, List.getElem?_eq_getElem hjz]
      simp only [List.getElem?_map, List.getElem?_take, if_pos hj, List.getElem?_eq_getElem hjz, Option.map_some] at hu
      exact hu
theorem IsRow.slAtN {k : IntKind} {w : World} {a : Option Addr} {len cap : Nat} {zs : List Int} (M : Nat) (hk : ∀ x, (Lit.int k x).wf = true → 0 ≤ x ∧ x < M) (h : IsRow k w a len cap zs) :
    ∃ l : List Nat, l.length = len ∧ (∀ x ∈ l, x < M) ∧ SlAt w (.slice a len cap) (l.map fun (n : Nat) => Value.int k (n : Int)) := by
  obtain ⟨l, hl, hb, hv⟩ := h.slAtI
  refine ⟨l.map Int.toNat, by simpa using hl, ?_, ?_⟩
  · intro n hn
    obtain ⟨m, hm, rfl⟩ := List.mem_map.1 hn
    have := hk m (hb m hm)
    omega
  · have e : (l.map Int.toNat).map (fun (n : Nat) => Value.int k (n : Int)) = l.map (Value.int k) := by
      rw [List.map_map]
      apply List.map_congr_left
      intro m hm
      have := hk m (hb m hm)
      simp only [Function.comp_apply]
      congr 1
      omega
    rw [e]; exact hv
theorem wf_u64 (x : Int) (h : (Lit.int .u64 x).wf = true) : 0 ≤ x ∧ x < (18446744073709551616 : Nat) := by
  have := bd_u64 h; omega


def uvals (l : List Nat) : List Value := l.map fun (n : Nat) => Value.int .u64 (n : Int)
theorem uvals_get {l : List Nat} {j : Nat} (h : j < l.length) : (uvals l)[j]? = some (.int .u64 ((l.getD j 0 : Nat) : Int)) := by
  simp [uvals, List.getD_eq_getElem?_getD, List.getElem?_eq_getElem h]
theorem getD_u64 {l : List Nat} (h : ∀ x ∈ l, x < 18446744073709551616) (j : Nat) : l.getD j 0 < 18446744073709551616 := by
  rw [List.getD_eq_getElem?_getD]
  by_cases hj : j < l.length
  · rw [List.getElem?_eq_getElem hj]; exact h _ (List.getElem_mem hj)
  · rw [List.getElem?_eq_none (by omega)]; decide
/-- Signed numbers as values. -/
def vals (l : List Int) : List Value := l.map (Value.int .i64)
@[simp] theorem vals_length (l : List Int) : (vals l).length = l.length := by simp [vals]
theorem vals_get {l : List Int} {j : Nat} (h : j < l.length) : (vals l)[j]? = some (.int .i64 (l.getD j 0)) := by
  simp [vals, List.getD_eq_getElem?_getD, List.getElem?_eq_getElem h]
theorem vals_one (l : List Int) : ∀ u ∈ vals l, u.oneCell' = true := by
  intro u hu; obtain ⟨x, _, rfl⟩ := List.mem_map.1 hu; rfl
/-- A signed number of 64 bits. -/
def I64 (x : Int) : Prop := -9223372036854775808 ≤ x ∧ x ≤ 9223372036854775807
theorem getD_I64 {l : List Int} (h : ∀ x ∈ l, I64 x) (j : Nat) : I64 (l.getD j 0) := by
  rw [List.getD_eq_getElem?_getD]
  by_cases hj : j < l.length
  · rw [List.getElem?_eq_getElem hj]; exact h _ (List.getElem_mem hj)
  · rw [List.getElem?_eq_none (by omega)]; exact ⟨by decide, by decide⟩

theorem uvals_length (l : List Nat) : (uvals l).length = l.length := by simp [uvals]
theorem uvals_one (l : List Nat) : ∀ u ∈ uvals l, u.oneCell' = true := by
  intro u hu; obtain ⟨x, _, rfl⟩ := List.mem_map.1 hu; rfl
theorem wrap64_range (x : Int) : I64 (wrap64 x) := by unfold I64 wrap64; omega
/-- A signed number's bits as a number. -/
def uN (d : Int) : Nat := (d % 18446744073709551616).toNat
theorem uN_lt (d : Int) : uN d < 18446744073709551616 := by unfold uN; omega
theorem uN_u64 (d : Int) : IntKind.u64.wrap d = ((uN d : Nat) : Int) := by rw [IntKind.wrap_u64]; unfold uN; omega
theorem uN_i64 (d : Int) (h0 : -9223372036854775808 ≤ d) (h1 : d ≤ 9223372036854775807) : wrap64 ((uN d : Nat) : Int) = d := by unfold uN wrap64; omega
theorem beqT {a b : Int} (h : a = b) : (a == b) = true := beq_iff_eq.2 h
theorem beqF {a b : Int} (h : a ≠ b) : (a == b) = false := beq_eq_false_iff_ne.2 h
theorem bneT {a b : Int} (h : a ≠ b) : (a != b) = true := bne_iff_ne.2 h
theorem bneF {a b : Int} (h : a = b) : (a != b) = false := by simp [h]
theorem owns_set {w : World} {base : Nat} {E : TypeId} {g n cap : Nat} {xs : List Value} (h : w.ownsRow base E 1 (.slice (some ⟨g, 0, none⟩) n cap) n xs) (j : Nat) (u : Value) :
    (w.setCell ⟨g, j, none⟩ u).ownsRow base E 1 (.slice (some ⟨g, 0, none⟩) n cap) n (xs.set j u) := by
  refine ⟨by simpa using h.1, ?_⟩
  rcases h.2 with ⟨e, _⟩ | ⟨g', cap', cur, e, hb, hg, hn, hm, hs, ht⟩
  · cases e
  · injection e with e1 e2 e3
    injection e1 with e1
    injection e1 with e1
    subst e1
    subst e3
    refine .inr ⟨g, cap, cur.setIfInBounds j u, rfl, hb, ?_, hn, hm, by simpa using hs, ?_⟩
    · simp [World.setCell, Array.getElem?_modify, hg]
    · rw [← ht]
      simp [List.take_set]
end Go.Proofs.Ytiiibhdohlpodaa

-- SX
namespace Go.Proofs.Ytiiibhdohlpodaa
open Go.RowKit
attribute [local go_sem ↓] Go.wp_at_zero Go.wp_at_succ

/-- A text's i-th byte. -/
def chr (s : ByteArray) (i : Nat) : Nat := (s.toList.getD i 0).toNat
theorem toList_size (s : ByteArray) : s.toList.length = s.size := by rw [ByteArray.toList_eq]; exact Array.length_toList
theorem chr_lt (s : ByteArray) (i : Nat) : chr s i < 256 := (s.toList.getD i 0).toNat_lt
theorem run_chr {P : Program} {t : TypeId} (h : P.underlying t = some .string) (s : ByteArray) (i : Nat) (hi : i < s.size) (w : World) : (Instr.index t (.string s) (.int .i64 (i : Int))).run P w = .ok (.int .u8 (chr s i : Int)) w := by
  have hl : s.toList.length = s.size := toList_size s
  rw [run_index_string w t s .i64 i h, dif_pos ⟨by omega, by omega⟩]
  have e : chr s i = (s[((i : Nat) : Int).toNat]'(by omega)).toNat := by
    unfold chr
    rw [List.getD_eq_getElem?_getD, List.getElem?_eq_getElem (by omega)]
    have h2 : s.toList = s.data.toList := ByteArray.toList_eq s
    simp only [h2, Option.getD_some, Array.getElem_toList]
    rfl
  rw [e]
theorem eqT {a b : Nat} (h : a = b) : ((a : Int) == (b : Int)) = true := by simp [h]
theorem toList_extractX (s : ByteArray) (i j : Nat) : (s.extract i j).toList = (s.toList.take j).drop i := by
  rw [ByteArray.toList_eq, ByteArray.toList_eq, ByteArray.data_extract, Array.toList_extract]
  simp [List.drop_take]
/-- A text's bytes as numbers. -/
def bl (s : ByteArray) : List Nat := s.toList.map UInt8.toNat
theorem bl_length (s : ByteArray) : (bl s).length = s.size := by unfold bl; rw [List.length_map, toList_size]
theorem bl_get {s : ByteArray} {i : Nat} (h : i < s.size) : (bl s)[i]? = some (chr s i) := by
  have h2 : i < s.toList.length := by rw [toList_size]; exact h
  unfold bl chr
  rw [List.getElem?_map, List.getElem?_eq_getElem h2, List.getD_eq_getElem?_getD, List.getElem?_eq_getElem h2]; rfl
theorem bl_getD (s : ByteArray) (i : Nat) : (bl s).getD i 0 = chr s i := by
  unfold bl chr
  rw [List.getD_eq_getElem?_getD, List.getElem?_map, List.getD_eq_getElem?_getD]
  cases s.toList[i]? <;> rfl
theorem bl_lt {s : ByteArray} {x : Nat} (h : x ∈ bl s) : x < 256 := by
  unfold bl at h
  obtain ⟨b, _, rfl⟩ := List.mem_map.1 h
  exact b.toNat_lt
theorem bl_extract (s : ByteArray) (i j : Nat) : bl (s.extract i j) = ((bl s).take j).drop i := by
  unfold bl; rw [toList_extractX, List.map_drop, List.map_take]
theorem bl_from (s : ByteArray) (i : Nat) : bl (s.extract i s.size) = (bl s).drop i := by
  rw [bl_extract, List.take_of_length_le (by rw [bl_length]; exact Nat.le_refl _)]
theorem bl_append (a b : ByteArray) : bl (a ++ b) = bl a ++ bl b := by
  unfold bl
  rw [← List.map_append]
  congr 1
  simp [ByteArray.toList_eq]
theorem bl_inj {a b : ByteArray} (h : bl a = bl b) : a = b := by
  unfold bl at h
  have h2 : a.toList = b.toList := (List.map_inj_right (fun x y e => UInt8.toNat_inj.1 e)).1 h
  rw [ByteArray.toList_eq, ByteArray.toList_eq] at h2
  cases a; cases b
  simp at h2
  cases h2
  rfl
theorem drop_cons {l : List Nat} {i : Nat} (h : i < l.length) : l.drop i = l.getD i 0 :: l.drop (i + 1) := by
  rw [List.drop_eq_getElem_cons h, List.getD_eq_getElem?_getD, List.getElem?_eq_getElem h]; rfl
theorem size_from (s : ByteArray) (i : Nat) : (s.extract i s.size).size = s.size - i := by simp [ByteArray.size_extract]
theorem size_cut (s : ByteArray) (i j : Nat) (h : j ≤ s.size) : (s.extract i j).size = j - i := by simp [ByteArray.size_extract]; omega
end Go.Proofs.Ytiiibhdohlpodaa

-- SN
namespace Go.Proofs.Ytiiibhdohlpodaa
open Go.RowKit
attribute [local go_sem ↓] Go.wp_at_zero Go.wp_at_succ

def byV (l : List Nat) : List Value := l.map fun (n : Nat) => Value.int .u8 (n : Int)
@[simp] theorem byV_length (l : List Nat) : (byV l).length = l.length := by simp [byV]
theorem byV_get {l : List Nat} {j : Nat} (h : j < l.length) : (byV l)[j]? = some (.int .u8 ((l.getD j 0 : Nat) : Int)) := by
  simp [byV, List.getD_eq_getElem?_getD, List.getElem?_eq_getElem h]
theorem byV_one (l : List Nat) : ∀ u ∈ byV l, u.oneCell' = true := by
  intro u hu
  obtain ⟨n, _, rfl⟩ := List.mem_map.1 hu
  rfl
theorem byV_append (a b : List Nat) : byV (a ++ b) = byV a ++ byV b := by simp [byV]
/-- Bytes as a text. -/
def strL (l : List Nat) : ByteArray := strOfNums (l.map fun (n : Nat) => (n : Int))
theorem strL_list (l : List Nat) : (strL l).toList = l.map UInt8.ofNat := by
  rw [ByteArray.toList_eq]
  simp [strL, strOfNums, List.map_map, Function.comp_def]
theorem bl_strL {l : List Nat} (h : ∀ x ∈ l, x < 256) : bl (strL l) = l := by
  unfold bl
  rw [strL_list, List.map_map]
  conv => rhs; rw [← List.map_id l]
  refine List.map_congr_left fun x hx => ?_
  have := h x hx
  simp; omega
theorem strL_bl (s : ByteArray) : strL (bl s) = s := bl_inj (bl_strL (fun _ hx => bl_lt hx))
theorem run_strL {P : Program} {w : World} {v : Value} {l : List Nat} (h : SlAt w v (byV l)) (src e dst : TypeId) (hs : P.underlying src = some (.slice e)) (he : P.underlying e = some (.int .u8)) (hd : P.underlying dst = some .string) :
    (convert src dst v).run P w = .ok (.string (strL l)) w := by
  rcases Nat.eq_zero_or_pos l.length with h0 | h0
  · obtain rfl : l = [] := List.eq_nil_of_length_eq_zero h0
    obtain ⟨ao, c, rfl, hn, hc⟩ := h.val
    cases ao with
    | none => exact run_convert_bytes_nil w src e hs he 0 c dst hd
    | some a =>
      rw [run_convert_bytes_string w src dst e _ _ c hs he hd]
      simp [Conv.bytesToString, loadCells, loadCellsFrom]
      rfl
  · obtain ⟨g, off, c, rfl, hc⟩ := h.addr (by rw [byV_length]; exact h0)
    rw [byV_length]
    have := run_convert_bytes_arg (P := P) w src e hs he g off l.length c (l.map fun (n : Nat) => (n : Int)) (by simp) (fun i hi => by
      rw [hc i _ (byV_get (by simpa using hi))]
      simp [List.getD_eq_getElem?_getD, List.getElem?_eq_getElem hi]) dst hd
    exact this
theorem Try.infoU8 : (Try.prog.info? 5).map (fun i => (i.zero, i.size, i.bytes)) = some (some (.int .u8 0), 1, 1) := by kernel_rfl
end Go.Proofs.Ytiiibhdohlpodaa

-- NX
namespace Go.Proofs.Ytiiibhdohlpodaa
open Go.RowKit
attribute [local go_sem ↓] Go.wp_at_zero Go.wp_at_succ

/-- What is answered: bytes in new memory, an error. -/
def BuildTo (w : World) (r : Int × List Int) (e : Ending) (w' : World) : Prop := ∃ v, e = .returned (.tuple #[v, .int .i64 r.1]) ∧ w'.ownsRow w.heap.size 5 1 v r.2.length (u8s r.2) ∧ Kept (fun _ => False) w w'
theorem strB_strOf {l : List Int} (h : ∀ x ∈ l, 0 ≤ x ∧ x < 256) : strB (strOfNums l) = l := by
  unfold strB strOfNums
  simp only [List.map_map, Function.comp_def]
  conv => rhs; rw [← List.map_id l]
  refine List.map_congr_left fun x hx => ?_
  have := h x hx
  simp
  omega
theorem strOf_size (l : List Int) : (strOfNums l).size = l.length := by
  unfold strOfNums ByteArray.size
  simp
theorem run_strI {P : Program} {w : World} {v : Value} {l : List Int} (h : SlAt w v (u8s l)) (src e dst : TypeId) (hs : P.underlying src = some (.slice e)) (he : P.underlying e = some (.int .u8)) (hd : P.underlying dst = some .string) :
    (convert src dst v).run P w = .ok (.string (strOfNums l)) w := by
  rcases Nat.eq_zero_or_pos l.length with h0 | h0
  · obtain rfl : l = [] := List.eq_nil_of_length_eq_zero h0
    obtain ⟨ao, c, rfl, hn, hc⟩ := h.val
    cases ao with
    | none => exact run_convert_bytes_nil w src e hs he 0 c dst hd
    | some a =>
      rw [run_convert_bytes_string w src dst e _ _ c hs he hd]
      simp [Conv.bytesToString, loadCells, loadCellsFrom]
      rfl
  · obtain ⟨g, off, c, rfl, hc⟩ := h.addr (by simpa using h0)
    have hl : (u8s l).length = l.length := by simp
    rw [hl]
    have := run_convert_bytes_arg (P := P) w src e hs he g off l.length c l rfl (fun i hi => by
      rw [hc i _ (by unfold u8s; rw [List.getElem?_map, List.getElem?_eq_getElem hi]; rfl)]
      simp [List.getD_eq_getElem?_getD, List.getElem?_eq_getElem hi]) dst hd
    exact this
theorem SliceAt.slAt {w : World} {ao : Option Addr} {c : Nat} {l : List Int} (h : SliceAt w (.slice ao l.length c) ao l.length c (u8s l)) : SlAt w (.slice ao l.length c) (u8s l) := by
  have hl : (u8s l).length = l.length := by simp
  refine ⟨ao, c, by rw [hl], fun h0 => List.eq_nil_of_length_eq_zero (by rw [hl]; exact h.none h0), fun a ha j u hu => h.cells a ha j u hu⟩
end Go.Proofs.Ytiiibhdohlpodaa

-- NY
namespace Go.Proofs.Ytiiibhdohlpodaa
open Go.RowKit
theorem countF_range (l : List Int) (t : Nat) (e most : Int) (hb : ∀ x ∈ l, 0 ≤ x ∧ x < 256) (h0 : 0 ≤ most) : 0 ≤ (countF l t e most).1 ∧ (countF l t e most).1 ≤ most := by
  unfold countF
  split
  · exact ⟨by decide, h0⟩
  · rename_i h
    obtain ⟨r, hr⟩ : ∃ r, r = lookE l t e := ⟨_, rfl⟩
    obtain ⟨v, n, e1⟩ := r
    rw [← hr] at h ⊢
    simp only at h ⊢
    by_cases he : e1 = 0
    · subst he
      have := lookE_num hb hr.symm
      omega
    · have := lookE_fault hr.symm he
      omega
theorem countF_taken (l : List Int) (t : Nat) (e most : Int) (ht : t ≤ l.length) : t + (countF l t e most).2.1 ≤ l.length := by
  unfold countF
  split
  · simpa using ht
  · exact lookE_taken l t e ht
theorem countF_nat (l : List Int) (t : Nat) (e most : Int) (hb : ∀ x ∈ l, 0 ≤ x ∧ x < 256) (h0 : 0 ≤ most) : ∃ n : Nat, (countF l t e most).1 = (n : Int) ∧ (n : Int) ≤ most := by
  have := countF_range l t e most hb h0
  exact ⟨(countF l t e most).1.toNat, by omega, by omega⟩
theorem textF_len (l : List Int) (t : Nat) (e most : Int) (hb : ∀ x ∈ l, 0 ≤ x ∧ x < 256) (h0 : 0 ≤ most) : ((textF l t e most).1.length : Int) ≤ most := by
  have hc := countF_range l t e most hb h0
  obtain ⟨c, hcc⟩ : ∃ c, c = countF l t e most := ⟨_, rfl⟩
  unfold textF
  rw [← hcc] at hc ⊢
  split
  · simpa using h0
  · simp only
    unfold nextF
    split
    · simpa using h0
    · split
      · simpa using h0
      · split
        · simpa using h0
        · simp only [List.length_take]; omega
theorem textF_taken (l : List Int) (t : Nat) (e most : Int) (ht : t ≤ l.length) : t + (textF l t e most).2.1 ≤ l.length := by
  have h1 := countF_taken l t e most ht
  have h2 := nextF_taken l (t + (countF l t e most).2.1) (countF l t e most).2.2 (countF l t e most).1 h1
  unfold textF
  split
  · simpa using ht
  · simp only; omega
theorem count_num {l : List Int} {t n : Nat} {e v most : Int} (hb : ∀ x ∈ l, 0 ≤ x ∧ x < 256) (h : countF l t e most = (v, n, 0)) : e = 0 ∧ l.drop t = numB v ++ l.drop (t + n) ∧ t + n ≤ l.length ∧ 0 ≤ v ∧ v ≤ most := by
  unfold countF at h
  split at h
  · simp at h
  · rename_i h1
    have he : e = 0 := (lookE_num hb h).1
    rw [h] at h1
    unfold lookE at h
    rw [if_pos he] at h
    obtain ⟨h2, h3, h4, h5, h6, h7⟩ := look_num l t n v hb h
    refine ⟨he, ?_, h7, h3, ?_⟩
    · rw [h2, ← List.drop_drop, List.take_append_drop]
    · simp only [true_and] at h1
      omega
theorem next_num {l bs : List Int} {t m : Nat} {e n : Int} (h : nextF l t e n = (bs, m, 0)) (ht : t ≤ l.length) : e = 0 ∧ l.drop t = bs ++ l.drop (t + m) ∧ t + m ≤ l.length ∧ bs.length = m ∧ n = (m : Int) := by
  unfold nextF at h
  by_cases he : e = 0
  · rw [if_neg (by simp [he])] at h
    by_cases hn : n < 0
    · rw [if_pos hn] at h; simp at h
    · rw [if_neg hn] at h
      by_cases hl : (l.length : Int) - t < n
      · rw [if_pos hl] at h; simp at h
      · rw [if_neg hl] at h
        simp only [Prod.mk.injEq] at h
        obtain ⟨h1, h2, _⟩ := h
        refine ⟨he, ?_, by omega, ?_, by omega⟩
        · rw [← h1, ← h2, ← List.drop_drop, List.take_append_drop]
        · rw [← h1, List.length_take, List.length_drop]; omega
  · rw [if_pos he] at h
    simp only [Prod.mk.injEq] at h
    omega
theorem text_num {l bs : List Int} {t m : Nat} {e most : Int} (hb : ∀ x ∈ l, 0 ≤ x ∧ x < 256) (ht : t ≤ l.length) (h : textF l t e most = (bs, m, 0)) : e = 0 ∧ l.drop t = numB (bs.length : Nat) ++ bs ++ l.drop (t + m) ∧ t + m ≤ l.length ∧ (bs.length : Int) ≤ most := by
  have h1 := countF_taken l t e most ht
  obtain ⟨c, hc⟩ : ∃ c, c = countF l t e most := ⟨_, rfl⟩
  unfold textF at h
  rw [← hc] at h h1
  obtain ⟨v, n, e1⟩ := c
  simp only at h h1
  obtain ⟨r, hr⟩ : ∃ r, r = nextF l (t + n) e1 v := ⟨_, rfl⟩
  rw [← hr] at h
  obtain ⟨bs', m', e2⟩ := r
  simp only at h
  by_cases he : e2 = 0
  · rw [if_neg (by simp [he])] at h
    simp only [Prod.mk.injEq] at h
    obtain ⟨rfl, rfl, _⟩ := h
    rw [he] at hr
    obtain ⟨rfl, h3, h4, h5, h6⟩ := next_num hr.symm h1
    obtain ⟨h7, h8, h9, h10, h11⟩ := count_num hb hc.symm
    refine ⟨h7, ?_, by omega, by omega⟩
    rw [h8, h3, h6, h5, Nat.add_assoc, List.append_assoc]
  · rw [if_pos he] at h
    simp only [Prod.mk.injEq] at h
    omega
theorem text_back2 (l rest : List Int) (t : Nat) (s : ByteArray) (most : Int) (hs : (s.size : Int) ≤ most) (hm : most ≤ 1000000) (h : l.drop t = numB s.size ++ strB s ++ rest) (ht : t ≤ l.length) : textF l t 0 most = (strB s, (numB s.size ++ strB s).length, 0) := by
  have hlk : lookE l t 0 = ((s.size : Int), 1 + oth s.size, 0) := by
    unfold lookE
    rw [if_pos rfl]
    exact lookF_numB l (strB s ++ rest) t s.size (by omega) (by omega) (by rw [h, List.append_assoc])
  have hc : countF l t 0 most = ((s.size : Int), 1 + oth s.size, 0) := by
    unfold countF
    rw [hlk, if_neg (by simp only; omega)]
  have hlen : l.length - t = 1 + oth s.size + s.size + rest.length := by
    have := congrArg List.length h
    rw [List.length_drop, List.length_append, List.length_append, numB_length, strB_length] at this; exact this
  have hd : l.drop (t + (1 + oth s.size)) = strB s ++ rest := by
    rw [← List.drop_drop, h, List.append_assoc]
    have e : 1 + oth s.size = (numB s.size).length := by rw [numB_length]
    rw [e, List.drop_left]
  have hn := next_back l (strB s) rest (t + (1 + oth s.size)) s.size (by rw [strB_length]) hd (by omega)
  unfold textF
  rw [hc]
  simp only
  rw [hn, if_neg (by simp), List.length_append, numB_length]
theorem count_back (l rest : List Int) (t : Nat) (v most : Int) (h0 : 0 ≤ v) (h1 : v ≤ most) (hm : most ≤ 18446744073709551615) (h : l.drop t = numB v ++ rest) : countF l t 0 most = (v, (numB v).length, 0) := by
  unfold countF
  rw [num_back l rest t v h0 (by omega) h, if_neg (by simp only; omega)]
theorem text_fault {l : List Int} {t : Nat} {e most : Int} (h : (countF l t e most).2.2 ≠ 0) : (textF l t e most).2.2 = (countF l t e most).2.2 := by
  unfold textF
  have : (nextF l (t + (countF l t e most).2.1) (countF l t e most).2.2 (countF l t e most).1).2.2 = (countF l t e most).2.2 := by
    unfold nextF
    rw [if_pos h]
  rw [this, if_pos h]
theorem count_err {l : List Int} {t n : Nat} {v e1 most : Int} (h : lookF l t = (v, n, e1)) (he : e1 ≠ 0) : (countF l t 0 most).2.2 = e1 := by
  unfold countF lookE
  rw [if_pos rfl, h, if_neg (by simp [he])]
theorem count_ko {l : List Int} {t n : Nat} {v most : Int} (h : lookF l t = (v, n, 0)) (he : most < v) : (countF l t 0 most).2.2 = 4 := by
  unfold countF lookE
  rw [if_pos rfl, h, if_pos ⟨rfl, .inr he⟩]
theorem count_ok {l : List Int} {t n : Nat} {v most : Int} (h : lookF l t = (v, n, 0)) (h0 : 0 ≤ v) (he : v ≤ most) : countF l t 0 most = (v, n, 0) := by
  unfold countF lookE
  rw [if_pos rfl, h, if_neg (by simp only; omega)]
theorem count_sticky {l : List Int} {t : Nat} {e most : Int} (h : e ≠ 0) : (countF l t e most).2.2 = e := by
  unfold countF lookE
  rw [if_neg h, if_neg (by simp [h])]
end Go.Proofs.Ytiiibhdohlpodaa

