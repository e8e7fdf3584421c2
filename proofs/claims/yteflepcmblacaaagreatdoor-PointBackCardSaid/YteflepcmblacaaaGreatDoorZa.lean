/- Texts put together for a seat that lacks some of the functions: L0 L1 P1 P2 P3 P4 P5 L2 P6 P7 L4 P8 P9 L3 L5 P10 (tools/strip.py). -/
import Derived.WalkKit
import Derived.WalkLawsBesides
import Derived.WalkSpells
import Derived.Deep.AppendSrc
import Derived.Deep.AppendLies
import Derived.Test.YteflepcmblacaaaGreatDoorRows
import Derived.Outline
import Derived.Deep.RegionHeld3
import Derived.Deep.DrawnRows
import Derived.Lib.Hide
import Derived.Deep.RegionLaw
import Derived.Deep.DeepCutAuto
import Derived.Deep.LoopGhost
import Derived.Test.YteflepcmblacaaaGreatDoorShelf
import Derived.Deep.QuietTactic
import Derived.BigQuiet
import Derived.Lib.Strings
import Derived.Shelf.Small.Bits
import Derived.DataReads
import Derived.WideShapes
import Derived.ProofKit
import Derived.OpenShut
-- L0
namespace Go.Proofs.YteflepcmblacaaaGreatDoor
open Go.RowKit

theorem ret_int {k : IntKind} {a b : Int} (h : a = b) : Ending.returned (.int k a) = .returned (.int k b) := by rw [h]
theorem ret_bool {a b : Bool} (h : a = b) : Ending.returned (.bool a) = .returned (.bool b) := by rw [h]
theorem ret_str {a b : ByteArray} (h : a = b) : Ending.returned (.string a) = .returned (.string b) := by rw [h]

/-- The world w' is the world w with new blocks, and with writes to blocks of S alone. -/
structure Kept (S : Nat → Prop) (w w' : World) : Prop where
  os : w'.os = w.os
  tape : w'.tape = w.tape
  output : w'.output = w.output
  size : w.heap.size ≤ w'.heap.size
  block : ∀ k, k < w.heap.size → ¬ S k → w'.heap[k]? = w.heap[k]?

namespace Kept
variable {S S' : Nat → Prop} {a b c w w' : World}
theorem refl (S : Nat → Prop) (w : World) : Kept S w w := ⟨rfl, rfl, rfl, Nat.le_refl _, fun _ _ _ => rfl⟩
theorem trans (h : Kept S a b) (k : Kept S b c) : Kept S a c :=
  ⟨k.os.trans h.os, k.tape.trans h.tape, k.output.trans h.output, Nat.le_trans h.size k.size, fun i hi hn => (k.block i (Nat.lt_of_lt_of_le hi h.size) hn).trans (h.block i hi hn)⟩
theorem mono (h : Kept S a b) (hs : ∀ k, k < a.heap.size → S k → S' k) : Kept S' a b := ⟨h.os, h.tape, h.output, h.size, fun k hk hn => h.block k hk fun x => hn (hs k hk x)⟩
/-- One step behind another: what the second writes is in S', or it is a block that wasn't there. -/
theorem step (h : Kept S a b) (k : Kept S' b c) (hs : ∀ k, k < a.heap.size → S' k → S k) : Kept S a c :=
  ⟨k.os.trans h.os, k.tape.trans h.tape, k.output.trans h.output, Nat.le_trans h.size k.size, fun i hi hn => (k.block i (Nat.lt_of_lt_of_le hi h.size) fun x => hn (hs i hi x)).trans (h.block i hi hn)⟩
theorem alloc (h : Kept S a b) (o : Obj) : Kept S a (b.alloc o) := h.trans ⟨rfl, rfl, rfl, by simp, fun k hk _ => Below.heap_alloc _ _ _ hk⟩
theorem drew (h : Kept S a b) : Kept S a b.drew := ⟨h.os, h.tape, h.output, h.size, h.block⟩
theorem drewN (h : Kept S a b) (n : Nat) : Kept S a (b.drewN n) := ⟨h.os, h.tape, h.output, h.size, h.block⟩
theorem setCell (h : Kept S a b) {p : Addr} (hp : p.block < a.heap.size → S p.block) (u : Value) : Kept S a (b.setCell p u) :=
  ⟨h.os, h.tape, h.output, by simpa [World.setCell] using h.size, fun k hk hn => by
    rw [Below.heap_setCell _ _ _ _ (by intro e; subst e; exact hn (hp hk))]; exact h.block k hk hn⟩
theorem grown {row : Option Nat} (h : Kept S a b) (hg : b.grownBy c row) (hr : ∀ k, row = some k → k < a.heap.size → S k) : Kept S a c :=
  h.step (S' := fun k => some k = row) ⟨hg.os, hg.tape, hg.output, hg.size, fun k hk hn => hg.block k hk hn⟩ (fun k hk hS => hr k hS.symm hk)
theorem ofBelow {B : Nat} (h : Below B a b) : Kept (fun k => B ≤ k) a b := ⟨h.os, h.tape, h.output, h.size, fun k _ hn => h.block k (by omega)⟩
theorem below {B : Nat} (h : Kept S a b) (hB : B ≤ a.heap.size) (hs : ∀ k, S k → B ≤ k) : Below B a b :=
  ⟨h.os, h.tape, h.output, h.size, fun k hk => h.block k (by omega) fun x => by have := hs k x; omega⟩
theorem same (h : Kept S a b) {p : Nat} {o : Obj} (hp : a.heap[p]? = some o) (hn : ¬ S p) : b.heap[p]? = some o := by
  rw [h.block p (Array.getElem?_eq_some_iff.1 hp).1 hn]; exact hp
theorem cell (h : Kept S a b) {p : Addr} {v : Value} (hp : a.cell? p = some v) (hn : ¬ S p.block) : b.cell? p = some v :=
  (World.cell?_of_block (h.block p.block (World.block_lt_of_cell? a p hp) hn)).trans hp
theorem owns (h : Kept S a b) {base : Nat} {e : TypeId} {size : Nat} {v : Value} {n : Nat} {xs : List Value} (ho : a.ownsRow base e size v n xs) (hn : ∀ k, v.ownBlock = some k → ¬ S k) : b.ownsRow base e size v n xs := by
  refine ⟨ho.1, ?_⟩
  rcases ho.2 with h0 | ⟨g, cap, cur, rfl, hb, hgg, rest⟩
  · exact .inl h0
  · exact .inr ⟨g, cap, cur, rfl, hb, h.same hgg (hn g rfl), rest⟩
end Kept

/-- A slice that owns its row lies in a block that is there. -/
theorem ownsRow_lt {w : World} {base : Nat} {e : TypeId} {size : Nat} {v : Value} {n : Nat} {xs : List Value} (ho : w.ownsRow base e size v n xs) {k : Nat} (hk : v.ownBlock = some k) : k < w.heap.size ∧ base ≤ k := by
  rcases ho.2 with ⟨rfl, _⟩ | ⟨g, cap, cur, rfl, hb, hgg, _⟩
  · cases hk
  · simp [Value.ownBlock] at hk; subst hk
    exact ⟨(Array.getElem?_eq_some_iff.1 hgg).1, hb⟩

/-- Its block holds cells of the element's type. -/
theorem ownsRow_block {w : World} {base : Nat} {e : TypeId} {size : Nat} {v : Value} {n : Nat} {xs : List Value} (ho : w.ownsRow base e size v n xs) {k : Nat} (hk : v.ownBlock = some k) : ∃ cur, w.heap[k]? = some (.cells cur e (0, 0)) := by
  rcases ho.2 with ⟨rfl, _⟩ | ⟨g, cap, cur, rfl, hb, hgg, _⟩
  · cases hk
  · simp [Value.ownBlock] at hk; subst hk
    exact ⟨cur, hgg⟩

/-- What a slice looks like that owns something, or nothing. -/
theorem ownsRow_slice {w : World} {base : Nat} {e : TypeId} {size : Nat} {v : Value} {n : Nat} {xs : List Value} (ho : w.ownsRow base e size v n xs) : ∃ a cap, v = .slice a n cap := by
  rcases ho.2 with ⟨rfl, rfl⟩ | ⟨g, cap, cur, rfl, _⟩
  · exact ⟨none, 0, rfl⟩
  · exact ⟨_, cap, rfl⟩

section
variable {P : Program} (w : World)

/-- One element that was laid in a block of its own to be appended. -/
theorem src_one {tx e : TypeId} (hk : P.underlying tx = some (.slice e)) (u : Value) (hu : u.oneCell' = true) :
    Src P 1 tx (.slice (some ⟨w.heap.size, 0, none⟩) 1 1) 1 [u] (w.alloc (.cells #[u] e)) :=
  Src.ofSlice _ hk _ 1 1 [u] rfl (World.news_of_block (cs := #[u]) (t := e) (fr := (0, 0)) (heap_alloc_new w _)) (by simpa using hu)
theorem Src.drawn {size : Nat} {tx : TypeId} {x : Value} {n : Nat} {news : List Value} (h : Src P size tx x n news w) (hx : ∀ a k c, x = .slice (some a) k c → ∀ j u, news[j]? = some u → w.cell? (a.add j) = some u) : Src P size tx x n news w.drew := by
  refine ⟨h.kind, h.len, h.cellsD, ?_, h.newsLen, h.one⟩
  have hn : (Builtin.lenOf x).run P w = .ok n w := h.len w
  have h2 := h.cellsD
  cases x with
  | slice a k c =>
    have hk : k = n := by simpa [Builtin.lenOf] using hn
    subst hk
    cases a with
    | none => simpa [Builtin.firstCells] using h2
    | some a => exact run_firstCells_some w.drew.drew size k a k c news h.newsLen (by simpa using hx a k c rfl)
  | string s => simpa [Builtin.firstCells] using h2
  | _ => simp [Builtin.lenOf] at hn
theorem src_one_drew {tx e : TypeId} (hk : P.underlying tx = some (.slice e)) (u : Value) (hu : u.oneCell' = true) :
    Src P 1 tx (.slice (some ⟨w.heap.size, 0, none⟩) 1 1) 1 [u] (w.alloc (.cells #[u] e)).drew :=
  Src.ofSlice _ hk _ 1 1 [u] rfl (World.news_of_block (cs := #[u]) (t := e) (fr := (0, 0)) (heap_alloc_new w _)) (by simpa using hu)

/-- A slice that owns its row, as what is appended. -/
theorem ownsRow.src {w : World} {base : Nat} {e : TypeId} {v : Value} {n : Nat} {xs : List Value} (ho : w.ownsRow base e 1 v n xs) {t e' : TypeId} (hk : P.underlying t = some (.slice e')) (h1 : ∀ u ∈ xs, u.oneCell' = true) :
    Src P 1 t v n xs w := by
  obtain ⟨a, cap, rfl⟩ := ownsRow_slice ho
  cases a with
  | none =>
    rcases ho.2 with ⟨_, rfl⟩ | ⟨g, cap, cur, e, _⟩
    · have : xs = [] := List.eq_nil_of_length_eq_zero (by simpa using ho.1)
      subst this
      exact Src.ofNil _ hk _
    · cases e
  | some a =>
    rcases ho.2 with ⟨e, _⟩ | ⟨g, cap', cur, e, _⟩
    · cases e
    · injection e with e1 e2 e3
      injection e1 with e1
      subst e1
      exact Src.ofSlice _ hk _ n cap xs ho.1 (ho.cells rfl) h1

theorem run_append_room_any (t tx ty e : TypeId) (i : TypeInfo) (ht : P.underlying t = some (.slice e)) (hi : P.info? e = some i)
    (g sLen sCap : Nat) (cur : Array Value) (hg : w.heap[g]? = some (.cells cur e (0, 0)))
    (x : Value) (m : Nat) (news : List Value) (hs : Src P i.size tx x m news w)
    (hroom : sLen + m ≤ sCap) (hfit : sLen * i.size + news.length ≤ cur.size) :
    (Builtin.append_ #[t, tx] ty #[.slice (some ⟨g, 0, none⟩) sLen sCap, x]).run P w =
      .ok (.slice (some ⟨g, 0, none⟩) (sLen + m) sCap) (w.setRow g (cur.toList.take (sLen * i.size) ++ news ++ cur.toList.drop (sLen * i.size + news.length)).toArray) := by
  have hst := run_storeCells_at P g (sLen * i.size) e news 0 cur w hg (by simpa using hfit) hs.one
  simp only [Nat.add_zero] at hst
  rcases hs.kind with ⟨e', hk⟩ | hk <;>
    simp [Builtin.append_, run_underlying ht, run_underlying hk, sizeOf, typeInfo, hi, hs.len, hroom, hs.cells, Addr.add_lit, hst]

theorem run_append_own_src (base : Nat) (t tx ty e : TypeId) (i : TypeInfo) (z : Value) (size bytes : Nat) (ht : P.underlying t = some (.slice e)) (hi : P.info? e = some i) (hz : i.zero = some z)
    (hsize : i.size = size) (hby : i.bytes = bytes) (hzs : z.cells.size = size)
    (v : Value) (n : Nat) (xs : List Value) (hown : w.ownsRow base e size v n xs)
    (x : Value) (m : Nat) (news : List Value) (hs : Src P size tx x m news w)
    (h63 : n + m ≤ maxLen) (hbytes : (n + m) * bytes ≤ 140737488355328) (hbase : base ≤ w.heap.size) :
    ∃ v' w', (Builtin.append_ #[t, tx] ty #[v, x]).run P w = .ok v' w' ∧ w'.ownsRow base e size v' (n + m) (xs ++ news) ∧ w.grownBy w' v.ownBlock ∧
      (v' = .slice none 0 0 ↔ v = .slice none 0 0 ∧ m = 0) ∧ (v'.ownBlock = v.ownBlock ∨ v'.ownBlock = some w.heap.size) := by
  subst hsize
  subst hby
  have hsmall : n + m ≤ 9223372036854775807 := by simp only [maxLen] at h63; omega
  have hl := hs.newsLen
  have hlen : (xs ++ news).length = (n + m) * i.size := by rw [List.length_append, hown.1, hl, Nat.add_mul]
  have grown : ∀ (old : Nat), old < n + m → ∀ (row : Option Nat),
      (w.drew.alloc (.cells ((xs ++ news).toArray ++ Builtin.zeroCells z.cells (grownCap w (n + m) old e - (n + m))) e)).ownsRow base e i.size
        (.slice (some ⟨w.heap.size, 0, none⟩) (n + m) (grownCap w (n + m) old e)) (n + m) (xs ++ news) ∧
      w.grownBy (w.drew.alloc (.cells ((xs ++ news).toArray ++ Builtin.zeroCells z.cells (grownCap w (n + m) old e - (n + m))) e)) row := by
    intro old ho row
    have hge := grownCap_ge w (n + m) old e
    have hcm : grownCap w (n + m) old e ≤ maxLen := grownCap_le_maxLen w (n + m) old e h63
    refine ⟨⟨hlen, .inr ⟨w.heap.size, _, _, rfl, hbase, heap_alloc_new w.drew _, hge, hcm, ?_, ?_⟩⟩, ⟨rfl, rfl, rfl, by simp, fun k hk _ => Below.heap_alloc w.drew _ k hk⟩⟩
    · simp only [Array.size_append, List.size_toArray, size_zeroCells, hzs, hlen, ← Nat.add_mul]
      congr 1
      omega
    · rw [← hlen, Array.toList_append]
      exact List.take_left
  rcases hown.2 with ⟨rfl, rfl⟩ | ⟨g, cap, cur, rfl, hbg, hg, hnc, hcm, hcs, htake⟩
  · have hx : xs = [] := List.eq_nil_of_length_eq_zero (by simpa using hown.1)
    subst hx
    by_cases hm : m = 0
    · subst hm
      have hn : news = [] := List.eq_nil_of_length_eq_zero (by simpa using hl)
      subst hn
      refine ⟨.slice none 0 0, w, ?_, World.ownsRow_nil w base e i.size, ⟨rfl, rfl, rfl, Nat.le_refl _, fun _ _ _ => rfl⟩, by simp, Or.inl rfl⟩
      rcases hs.kind with ⟨e', hk⟩ | hk <;>
        simp [Builtin.append_, run_underlying ht, run_underlying hk, sizeOf, typeInfo, hi, hs.len, hs.cells]
    · have hr := run_append_grow_src (P := P) w t tx ty e i z ht hi hz none 0 0 [] (by simp [Builtin.firstCells]) x m news hs (by omega) (by omega) (growslice_fits (by omega) hbytes)
      have hgr := grown 0 (by omega) (Value.ownBlock (.slice none 0 0))
      exact ⟨_, _, hr, hgr.1, hgr.2, by simp [hm], Or.inr rfl⟩
  · by_cases hroom : n + m ≤ cap
    · have hfit : n * i.size + news.length ≤ cur.size := by rw [hl, hcs, ← Nat.add_mul]; exact Nat.mul_le_mul_right _ hroom
      have hr := run_append_room_any (P := P) w t tx ty e i ht hi g n cap cur hg x m news hs hroom hfit
      refine ⟨_, _, hr, ⟨hlen, .inr ⟨g, cap, _, rfl, hbg, setRow_heap w g cur _ e _ hg, hroom, hcm, ?_, ?_⟩⟩, ⟨rfl, rfl, rfl, by simp, fun k _ hk => setRow_other w g k _ (fun e => hk (by simp [Value.ownBlock, e]))⟩, by simp, Or.inl rfl⟩
      · simp only [List.size_toArray, List.length_append, List.length_take, List.length_drop, Array.length_toList]
        omega
      · rw [htake, ← hlen]
        exact List.take_left
    · have holds : ∀ j u, xs[j]? = some u → w.cell? ((⟨g, 0, none⟩ : Addr).add j) = some u := hown.cells (g := g) rfl
      have hold : (Builtin.firstCells i.size n (.slice (some ⟨g, 0, none⟩) n cap)).run P w.drew = .ok xs.toArray w.drew :=
        run_firstCells_some w.drew i.size n ⟨g, 0, none⟩ n cap xs hown.1 (by simpa using holds)
      have hr := run_append_grow_src (P := P) w t tx ty e i z ht hi hz (some ⟨g, 0, none⟩) n cap xs hold x m news hs (by omega) (by omega) (growslice_fits (by omega) hbytes)
      have hgr := grown cap (by omega) (Value.ownBlock (.slice (some ⟨g, 0, none⟩) n cap))
      exact ⟨_, _, hr, hgr.1, hgr.2, by simp, Or.inr rfl⟩

/-- At the operation. -/
theorem wp_append_src {o : Oper} {a : Act} {K : Act → World → Prop} {Q : Exit → Act → World → Prop} (s x : Operand) (t tx : TypeId)
    (ho : o.op = .call { callee := .builtin .append, args := #[s, x], argTypes := #[t, tx] })
    (base : Nat) (e : TypeId) (i : TypeInfo) (z : Value) (size bytes : Nat) (ht : P.underlying t = some (.slice e)) (hi : P.info? e = some i) (hz : i.zero = some z)
    (hsize : i.size = size) (hby : i.bytes = bytes) (hzs : z.cells.size = size)
    (v : Value) (n : Nat) (xs : List Value) (hv : a.eval s = v) (hown : w.ownsRow base e size v n xs)
    (y : Value) (m : Nat) (news : List Value) (hy : a.eval x = y) (hs : Src P size tx y m news w)
    (h63 : n + m ≤ maxLen) (hbytes : (n + m) * bytes ≤ 140737488355328) (hbase : base ≤ w.heap.size)
    (h : ∀ v' w', w'.ownsRow base e size v' (n + m) (xs ++ news) → w.grownBy w' v.ownBlock → (v' = .slice none 0 0 ↔ v = .slice none 0 0 ∧ m = 0) → (v'.ownBlock = v.ownBlock ∨ v'.ownBlock = some w.heap.size) → K (a.put o.dst v') w') : o.wp P a w K Q := by
  obtain ⟨v', w', hr, h2, h3, h4, h5⟩ := run_append_own_src (P := P) w base t tx o.type e i z size bytes ht hi hz hsize hby hzs v n xs hown y m news hs h63 hbytes hbase
  unfold Oper.wp execOp
  simp only [ho, resolve, invoke, builtin, Sem.run_bind, Sem.run_pure, Result.andThen_ok, List.map_toArray, List.map_cons, List.map_nil, hv, hy, hr]
  exact h v' w' h2 h3 h4 h5

/-- At a plain region's list. -/
theorem wpList_append_src {ops : Array Oper} {rest : List Oper} {o : Oper} {a : Act} {Q : Exit → Act → World → Prop} (hgd : o.guard = none) (s x : Operand) (t tx : TypeId)
    (ho : o.op = .call { callee := .builtin .append, args := #[s, x], argTypes := #[t, tx] })
    (base : Nat) (e : TypeId) (i : TypeInfo) (z : Value) (size bytes : Nat) (ht : P.underlying t = some (.slice e)) (hi : P.info? e = some i) (hz : i.zero = some z)
    (hsize : i.size = size) (hby : i.bytes = bytes) (hzs : z.cells.size = size)
    (v : Value) (n : Nat) (xs : List Value) (hv : a.eval s = v) (hown : w.ownsRow base e size v n xs)
    (y : Value) (m : Nat) (news : List Value) (hy : a.eval x = y) (hs : Src P size tx y m news w)
    (h63 : n + m ≤ maxLen) (hbytes : (n + m) * bytes ≤ 140737488355328) (hbase : base ≤ w.heap.size)
    (h : ∀ v' w', w'.ownsRow base e size v' (n + m) (xs ++ news) → w.grownBy w' v.ownBlock → (v' = .slice none 0 0 ↔ v = .slice none 0 0 ∧ m = 0) → (v'.ownBlock = v.ownBlock ∨ v'.ownBlock = some w.heap.size) → wpList P ops Q rest (a.put o.dst v') w') : wpList P ops Q (o :: rest) a w :=
  wpList_plain hgd fun _ hK => wp_append_src w s x t tx ho base e i z size bytes ht hi hz hsize hby hzs v n xs hv hown y m news hy hs h63 hbytes hbase fun v' w' h2 h3 h4 h5 => hK _ _ (h v' w' h2 h3 h4 h5)

/-- At a step of a region that draws its order. -/
theorem step_append_src {ops : Array Oper} {o : Oper} {a : Act} {K : Act → World → Prop} {Q : Exit → Act → World → Prop} {E : Prop} (hgd : o.guard = none) (s x : Operand) (t tx : TypeId)
    (ho : o.op = .call { callee := .builtin .append, args := #[s, x], argTypes := #[t, tx] })
    (base : Nat) (e : TypeId) (i : TypeInfo) (z : Value) (size bytes : Nat) (ht : P.underlying t = some (.slice e)) (hi : P.info? e = some i) (hz : i.zero = some z)
    (hsize : i.size = size) (hby : i.bytes = bytes) (hzs : z.cells.size = size)
    (v : Value) (n : Nat) (xs : List Value) (hv : a.eval s = v) (hown : w.ownsRow base e size v n xs)
    (y : Value) (m : Nat) (news : List Value) (hy : a.eval x = y) (hs : Src P size tx y m news w)
    (h63 : n + m ≤ maxLen) (hbytes : (n + m) * bytes ≤ 140737488355328) (hbase : base ≤ w.heap.size)
    (h : ∀ v' w', w'.ownsRow base e size v' (n + m) (xs ++ news) → w.grownBy w' v.ownBlock → (v' = .slice none 0 0 ↔ v = .slice none 0 0 ∧ m = 0) → (v'.ownBlock = v.ownBlock ∨ v'.ownBlock = some w.heap.size) → K (a.put o.dst v') w') :
    if Region.wanted o (yielded ops a.tmps) = true then Oper.wp P o a w K Q else E := by
  have hw : Region.wanted o (yielded ops a.tmps) = true := by simp [Region.wanted, hgd]
  rw [if_pos hw]
  exact wp_append_src w s x t tx ho base e i z size bytes ht hi hz hsize hby hzs v n xs hv hown y m news hy hs h63 hbytes hbase h
end
end Go.Proofs.YteflepcmblacaaaGreatDoor

-- L1
namespace Go.Proofs.YteflepcmblacaaaGreatDoor
open Go.RowKit

/-- A signed number as one that isn't. -/
def zigI (a : Int) : Int := if 0 ≤ a then 2 * a else -2 * a - 1
/-- And turned back. -/
def zagI (v : Int) : Int := if v % 2 = 0 then v / 2 else -(v / 2) - 1

theorem zigI_range (a : Int) (h0 : -9223372036854775808 ≤ a) (h1 : a ≤ 9223372036854775807) : 0 ≤ zigI a ∧ zigI a ≤ 18446744073709551615 := by
  unfold zigI; split <;> omega
theorem zagI_range (v : Int) (h0 : 0 ≤ v) (h1 : v ≤ 18446744073709551615) : -9223372036854775808 ≤ zagI v ∧ zagI v ≤ 9223372036854775807 := by
  unfold zagI; split <;> omega
theorem zag_zig (a : Int) : zagI (zigI a) = a := by
  unfold zagI zigI; split <;> split <;> omega
theorem zig_zag (v : Int) (h0 : 0 ≤ v) : zigI (zagI v) = v := by
  unfold zagI zigI; split <;> split <;> omega
theorem zig_inj (a b : Int) (h : zigI a = zigI b) : a = b := by
  rw [← zag_zig a, h, zag_zig]

theorem wrap_u64_of (x : Int) (h0 : 0 ≤ x) (h1 : x ≤ 18446744073709551615) : IntKind.u64.wrap x = x := by
  rw [IntKind.wrap_u64]; omega

theorem xor_u64_none (x : Int) (h0 : 0 ≤ x) (h1 : x ≤ 18446744073709551615) : bits .xor .u64 x 0 = x := by
  have h := u64_xor x 0 h0 (by omega) (by omega) (by omega)
  rw [h]; simp; omega

theorem xor_u64_all (x : Int) (h0 : 0 ≤ x) (h1 : x ≤ 18446744073709551615) : bits .xor .u64 x 18446744073709551615 = 18446744073709551615 - x := by
  obtain ⟨n, rfl⟩ : ∃ n : Nat, x = n := ⟨x.toNat, by omega⟩
  have hn : n < 2 ^ 64 := by omega
  have h := u64_xor_nat n 18446744073709551615 (by omega) (by omega)
  have e : n ^^^ 18446744073709551615 = 18446744073709551615 - n := by
    have b := congrArg BitVec.toNat (BitVec.xor_allOnes (x := BitVec.ofNat 64 n))
    simpa [BitVec.toNat_xor, BitVec.toNat_allOnes, BitVec.toNat_not, Nat.mod_eq_of_lt hn] using b
  have h' := h
  rw [e] at h'
  have : ((18446744073709551615 - n : Nat) : Int) = 18446744073709551615 - (n : Int) := by omega
  rw [this] at h'
  exact h'

/-- What Zig's shifts and exclusive or come to. -/
theorem zig_bits (a : Int) (h0 : -9223372036854775808 ≤ a) (h1 : a ≤ 9223372036854775807) :
    bits .xor .u64 (IntKind.u64.wrap (IntKind.u64.wrap a * 2)) (IntKind.u64.wrap (a / 9223372036854775808)) = zigI a := by
  simp only [IntKind.wrap_u64]
  by_cases h : 0 ≤ a
  · have e : (a / 9223372036854775808) % 18446744073709551616 = 0 := by omega
    have e2 : a % 18446744073709551616 * 2 % 18446744073709551616 = 2 * a := by omega
    rw [e, e2, xor_u64_none _ (by omega) (by omega)]
    unfold zigI; rw [if_pos h]
  · have e : (a / 9223372036854775808) % 18446744073709551616 = 18446744073709551615 := by omega
    have e2 : a % 18446744073709551616 * 2 % 18446744073709551616 = 18446744073709551616 + 2 * a := by omega
    rw [e, e2, xor_u64_all _ (by omega) (by omega)]
    unfold zigI; rw [if_neg h]; omega
end Go.Proofs.YteflepcmblacaaaGreatDoor
namespace Go.Proofs.YteflepcmblacaaaGreatDoor
open Go.RowKit
theorem xor_i64_eq (x y : Int) : bits .xor .i64 x y = IntKind.i64.wrap ((BitVec.ofInt 64 x ^^^ BitVec.ofInt 64 y).toNat : Int) := rfl
theorem wrap_i64_ofInt (x : Int) (h0 : -9223372036854775808 ≤ x) (h1 : x ≤ 9223372036854775807) : IntKind.i64.wrap ((BitVec.ofInt 64 x).toNat : Int) = x := by
  rw [BitVec.toNat_ofInt]
  simp [IntKind.bits, IntKind.wrap, IntKind.signed]
  omega
theorem xor_i64_none (x : Int) (h0 : -9223372036854775808 ≤ x) (h1 : x ≤ 9223372036854775807) : bits .xor .i64 x 0 = x := by
  have h : (BitVec.ofInt 64 x ^^^ BitVec.ofInt 64 0) = BitVec.ofInt 64 x := by simp
  rw [xor_i64_eq, h, wrap_i64_ofInt x h0 h1]
theorem xor_i64_all (x : Int) (h0 : -9223372036854775808 ≤ x) (h1 : x ≤ 9223372036854775807) : bits .xor .i64 x (-1) = -1 - x := by
  have h : (BitVec.ofInt 64 x ^^^ BitVec.ofInt 64 (-1)) = ~~~ BitVec.ofInt 64 x := by
    have : BitVec.ofInt 64 (-1) = BitVec.allOnes 64 := by decide
    rw [this, BitVec.xor_allOnes]
  rw [xor_i64_eq, h, BitVec.toNat_not, BitVec.toNat_ofInt]
  simp [IntKind.bits, IntKind.wrap, IntKind.signed]
  omega
theorem and1_u64 (v : Int) (h0 : 0 ≤ v) (h1 : v ≤ 18446744073709551615) : bits .and .u64 v 1 = v % 2 := by
  rw [u64_and v 1 h0 (by omega) (by omega) (by omega)]
  have := nat_mask1 v.toNat
  simp only [Int.toNat_one] at *
  rw [this]; omega

/-- How many bytes a number's form has behind the first one. -/
def oth (v : Int) : Nat :=
  if v < 128 then 0 else if v < 16384 then 1 else if v < 2097152 then 2 else if v < 268435456 then 3 else if v < 34359738368 then 4 else if v < 4398046511104 then 5 else if v < 562949953421312 then 6 else if v < 72057594037927936 then 7 else 8
theorem oth_le (v : Int) : oth v ≤ 8 := by unfold oth; (repeat' split) <;> omega
theorem oth_more (v : Int) (k : Nat) (_h0 : 0 ≤ v) (h : k < oth v) : ((2 ^ (7 + 7 * k) : Nat) : Int) ≤ v := by
  unfold oth at h
  have : k = 0 ∨ k = 1 ∨ k = 2 ∨ k = 3 ∨ k = 4 ∨ k = 5 ∨ k = 6 ∨ k = 7 := by (repeat' split at h) <;> omega
  rcases this with rfl | rfl | rfl | rfl | rfl | rfl | rfl | rfl <;> simp <;> (repeat' split at h) <;> omega
end Go.Proofs.YteflepcmblacaaaGreatDoor
namespace Go.Proofs.YteflepcmblacaaaGreatDoor
open Go.RowKit
theorem oth_end (v : Int) (k : Nat) (h : oth v = k) (hk : k < 8) : v < ((2 ^ (7 + 7 * k) : Nat) : Int) := by
  subst h
  unfold oth at *
  (repeat' split) <;> simp_all <;> omega
/-- What Zag's shifts and exclusive or come to. -/
theorem zag_bits (v : Int) (h0 : 0 ≤ v) (h1 : v ≤ 18446744073709551615) : bits .xor .i64 (v / 2) (wrap64 (-wrap64 (bits .and .u64 v 1))) = zagI v := by
  have e1 : wrap64 (bits .and .u64 v 1) = v % 2 := by rw [and1_u64 v h0 h1]; unfold wrap64; omega
  have e2 : wrap64 (-(v % 2)) = -(v % 2) := by unfold wrap64; omega
  rw [e1, e2]
  unfold zagI
  by_cases h : v % 2 = 0
  · rw [h, if_pos rfl]; exact xor_i64_none _ (by omega) (by omega)
  · have e : v % 2 = 1 := by omega
    rw [e, if_neg (by omega), xor_i64_all _ (by omega) (by omega)]; omega
end Go.Proofs.YteflepcmblacaaaGreatDoor
namespace Go.Proofs.YteflepcmblacaaaGreatDoor
open Go.RowKit
/-- The byte at place j from the low end. -/
def byteI (v : Int) (j : Nat) : Int := v / ((256 ^ j : Nat) : Int) % 256
/-- The first byte of a number's form: k bits set, one not, and the number's top bits. -/
def firstB (v : Int) (k : Nat) : Int := 256 - ((2 ^ (8 - k) : Nat) : Int) + v / ((256 ^ k : Nat) : Int)
/-- What stands behind the first byte: j of k bytes, the highest first. -/
def restB (v : Int) (k j : Nat) : List Int := (List.range j).map fun i => byteI v (k - 1 - i)
/-- A number's form. -/
def numB (v : Int) : List Int := firstB v (oth v) :: restB v (oth v) (oth v)
theorem restB_succ (v : Int) (k j : Nat) : restB v k (j + 1) = restB v k j ++ [byteI v (k - 1 - j)] := by
  unfold restB; rw [List.range_succ, List.map_append]; rfl
theorem restB_length (v : Int) (k j : Nat) : (restB v k j).length = j := by simp [restB]
theorem numB_length (v : Int) : (numB v).length = 1 + oth v := by simp [numB, restB]; omega
theorem byte_shift (v : Int) (s : Int) (j : Nat) (h : s = 8 * (j : Int)) : IntKind.u8.wrap (v / 2 ^ s.toNat) = byteI v j := by
  subst h
  rw [IntKind.wrap_u8]
  unfold byteI
  have e : (8 * (j : Int)).toNat = 8 * j := by omega
  have e2 : ((256 ^ j : Nat) : Int) = 2 ^ (8 * j) := by
    rw [show (256 : Nat) = 2 ^ 8 from rfl, ← Nat.pow_mul]; simp
  rw [e, e2]
theorem or_u8_join (a b : Int) (s : Nat) (ha : 0 ≤ a) (ha' : a < 256) (hm : a % ((2 ^ s : Nat) : Int) = 0) (hb : 0 ≤ b) (hb' : b < ((2 ^ s : Nat) : Int)) (hb'' : b < 256) : bits .or .u8 a b = a + b := by
  rw [u8_or a b ha ha' hb hb'']
  obtain ⟨n, rfl⟩ : ∃ n : Nat, a = n := ⟨a.toNat, by omega⟩
  obtain ⟨m, rfl⟩ : ∃ m : Nat, b = m := ⟨b.toNat, by omega⟩
  have hm' : n % 2 ^ s = 0 := by
    have h : ((n % 2 ^ s : Nat) : Int) = 0 := by rw [Int.natCast_emod]; exact hm
    exact Int.natCast_eq_zero.mp h
  have hb3 : m < 2 ^ s := Int.ofNat_lt.mp hb'
  have h := nat_join s n m hm' hb3
  rw [Int.toNat_natCast, Int.toNat_natCast, h, Int.natCast_add]
theorem first_bits (x : Int) (h0 : 0 ≤ x) (h1 : x ≤ 18446744073709551615) :
    bits .or .u8 (bits .xor .u8 IntKind.u8.max (255 / 2 ^ oth x)) (IntKind.u8.wrap (x / 2 ^ (8 * (oth x : Int)).toNat)) = firstB x (oth x) := by
  rw [byte_shift x _ (oth x) rfl]
  have hk := oth_le x
  have he : ∀ k, oth x = k → bits .or .u8 (bits .xor .u8 IntKind.u8.max (255 / 2 ^ k)) (byteI x k) = firstB x k := by
    intro k hk'
    have hs := fun h => oth_end x k hk' h
    obtain rfl | rfl | rfl | rfl | rfl | rfl | rfl | rfl | rfl : k = 0 ∨ k = 1 ∨ k = 2 ∨ k = 3 ∨ k = 4 ∨ k = 5 ∨ k = 6 ∨ k = 7 ∨ k = 8 := by omega
    all_goals
      try replace hs := hs (by decide)
      simp at hs
      unfold byteI firstB
      simp only [Nat.reducePow, Nat.reduceSub]
    · rw [show bits .xor .u8 IntKind.u8.max (255 / 2 ^ 0) = 0 from by decide, or_u8_join 0 _ 7 (by omega) (by omega) (by omega) (by omega) (by simp; omega) (by omega)]; omega
    · rw [show bits .xor .u8 IntKind.u8.max (255 / 2 ^ 1) = 128 from by decide, or_u8_join 128 _ 6 (by omega) (by omega) (by decide) (by omega) (by simp; omega) (by omega)]; omega
    · rw [show bits .xor .u8 IntKind.u8.max (255 / 2 ^ 2) = 192 from by decide, or_u8_join 192 _ 5 (by omega) (by omega) (by decide) (by omega) (by simp; omega) (by omega)]; omega
    · rw [show bits .xor .u8 IntKind.u8.max (255 / 2 ^ 3) = 224 from by decide, or_u8_join 224 _ 4 (by omega) (by omega) (by decide) (by omega) (by simp; omega) (by omega)]; omega
    · rw [show bits .xor .u8 IntKind.u8.max (255 / 2 ^ 4) = 240 from by decide, or_u8_join 240 _ 3 (by omega) (by omega) (by decide) (by omega) (by simp; omega) (by omega)]; omega
    · rw [show bits .xor .u8 IntKind.u8.max (255 / 2 ^ 5) = 248 from by decide, or_u8_join 248 _ 2 (by omega) (by omega) (by decide) (by omega) (by simp; omega) (by omega)]; omega
    · rw [show bits .xor .u8 IntKind.u8.max (255 / 2 ^ 6) = 252 from by decide, or_u8_join 252 _ 1 (by omega) (by omega) (by decide) (by omega) (by simp; omega) (by omega)]; omega
    · rw [show bits .xor .u8 IntKind.u8.max (255 / 2 ^ 7) = 254 from by decide, or_u8_join 254 _ 0 (by omega) (by omega) (by decide) (by omega) (by simp; omega) (by omega)]; omega
    · rw [show bits .xor .u8 IntKind.u8.max (255 / 2 ^ 8) = 255 from by decide, or_u8_join 255 _ 0 (by omega) (by omega) (by decide) (by omega) (by simp; omega) (by omega)]; omega
  exact he _ rfl
end Go.Proofs.YteflepcmblacaaaGreatDoor

-- P1
namespace Go.Proofs.YteflepcmblacaaaGreatDoor
open Go.RowKit

set_option maxHeartbeats 400000 in
theorem zig_any (a : Int) (h0 : -9223372036854775808 ≤ a) (h1 : a ≤ 9223372036854775807) (w : World) :
    Calls Tryz.prog 74 #[.int .i64 a] w fun e w' => e = .returned (.int .u64 (zigI a)) ∧ w = w' := by
  go_enter Tryz.func74, Tryz.ntmps74
  go_wp2
  go_ret
  exact ⟨ret_int (zig_bits a h0 h1), rfl⟩

set_option maxHeartbeats 400000 in
theorem zag_any (v : Int) (h0 : 0 ≤ v) (h1 : v ≤ 18446744073709551615) (w : World) :
    Calls Tryz.prog 81 #[.int .u64 v] w fun e w' => e = .returned (.int .i64 (zagI v)) ∧ w = w' := by
  go_enter Tryz.func81, Tryz.ntmps81
  go_wp2
  go_ret
  exact ⟨ret_int (zag_bits v h0 h1), rfl⟩

set_option maxHeartbeats 400000 in
/-- How many bytes a number's form has behind the first one. -/
theorem others_any (v : Int) (h0 : 0 ≤ v) (h1 : v ≤ 18446744073709551615) (w : World) :
    Calls Tryz.prog 47 #[.int .u64 v] w fun e w' => e = .returned (.int .i64 (oth v)) ∧ w = w' := by
  go_enter Tryz.func47, Tryz.ntmps47
  go_wp2
  go_loop [3] (fun t => ∃ k : Nat, k ≤ oth v ∧ t = .int .i64 k) (fun t => 8 - (intOf t).toNat)
  case atStart => exact ⟨0, Nat.zero_le _, rfl⟩
  case round =>
    obtain ⟨k, hk, rfl⟩ := hrel
    have hk8 := oth_le v
    by_cases hd : k < oth v
    · have hs := oth_more v k h0 hd
      have hk' : k < 8 := by omega
      obtain rfl | rfl | rfl | rfl | rfl | rfl | rfl | rfl : k = 0 ∨ k = 1 ∨ k = 2 ∨ k = 3 ∨ k = 4 ∨ k = 5 ∨ k = 6 ∨ k = 7 := by omega
      all_goals
        simp only [Nat.reduceMul, Nat.reduceAdd, Nat.reducePow] at hs
        go_wp2
        go_round
        case rel => exact ⟨_, hd, by go_num⟩
        case measure => simp [intOf]
    · have he : oth v = k := by omega
      have hs := oth_end v k he
      have HE : Hid (oth v = k) := he
      clear he hk hd
      obtain rfl | rfl | rfl | rfl | rfl | rfl | rfl | rfl | rfl : k = 0 ∨ k = 1 ∨ k = 2 ∨ k = 3 ∨ k = 4 ∨ k = 5 ∨ k = 6 ∨ k = 7 ∨ k = 8 := by have := HE.out; omega
      all_goals
        simp at hs
        go_wp2
        go_ret
        exact ⟨ret_int (by rw [HE.out]; rfl), rfl⟩
end Go.Proofs.YteflepcmblacaaaGreatDoor

-- P2
namespace Go.Proofs.YteflepcmblacaaaGreatDoor
open Go.RowKit
attribute [local go_sem ↓] Go.wp_at_zero Go.wp_at_succ

abbrev u8s (l : List Int) : List Value := l.map (Value.int .u8)

/-- The writer behind the pointer to block p holds the slice v, which owns the bytes l. -/
structure WrAt (T : TypeId) (E : TypeId) (w : World) (B p : Nat) (v : Value) (l : List Int) : Prop where
  base : B ≤ p
  box : w.heap[p]? = some (.cells #[v] T (0, 0))
  owns : w.ownsRow B E 1 v l.length (u8s l)
  apart : v.ownBlock ≠ some p

/-- What a call on it leaves. -/
def WrTo (T : TypeId) (E : TypeId) (w w' : World) (B p : Nat) (v : Value) (l' : List Int) : Prop :=
  ∃ v', WrAt T E w' B p v' l' ∧ (v'.ownBlock = v.ownBlock ∨ ∃ k, v'.ownBlock = some k ∧ w.heap.size ≤ k) ∧ Kept (fun k => k = p ∨ v.ownBlock = some k) w w'

theorem WrAt.to {T E : TypeId} {w : World} {B p : Nat} {v : Value} {l : List Int} (h : WrAt T E w B p v l) : WrTo T E w w B p v l :=
  ⟨v, h, .inl rfl, Kept.refl _ _⟩
theorem WrAt.lt {T E : TypeId} {w : World} {B p : Nat} {v : Value} {l : List Int} (h : WrAt T E w B p v l) : p < w.heap.size := (Array.getElem?_eq_some_iff.1 h.box).1
theorem WrAt.kept {T E : TypeId} {w w' : World} {B p : Nat} {v : Value} {l : List Int} {S : Nat → Prop} (h : WrAt T E w B p v l) (hk : Kept S w w') (hp : ¬ S p) (hv : ∀ k, v.ownBlock = some k → ¬ S k) : WrAt T E w' B p v l :=
  ⟨h.base, hk.same h.box hp, hk.owns h.owns hv, h.apart⟩

/-- A call's leavings taken apart: what the next call leaves is what both leave. -/
theorem WrTo.part {T E : TypeId} {w w1 : World} {B p : Nat} {v : Value} {l1 : List Int} (h : WrTo T E w w1 B p v l1) :
    ∃ v1, WrAt T E w1 B p v1 l1 ∧ w.heap.size ≤ w1.heap.size ∧ Hid (∀ w2 l2, WrTo T E w1 w2 B p v1 l2 → WrTo T E w w2 B p v l2) := by
  obtain ⟨v1, h1, a1, k1⟩ := h
  refine ⟨v1, h1, k1.size, fun w2 l2 k => ?_⟩
  obtain ⟨v2, h2, a2, k2⟩ := k
  refine ⟨v2, h2, ?_, k1.step k2 ?_⟩
  · rcases a2 with a2 | ⟨g, e, hg⟩
    · rw [a2]
      rcases a1 with a1 | a1
      · exact .inl a1
      · exact .inr a1
    · exact .inr ⟨g, e, Nat.le_trans k1.size hg⟩
  · intro k hk hS
    rcases hS with rfl | hS
    · exact .inl rfl
    · rcases a1 with a1 | ⟨g, e, hg⟩
      · exact .inr (a1 ▸ hS)
      · rw [e] at hS; cases hS; omega

/-- Behind an append and the store into the field. -/
theorem WrAt.pushed {T E : TypeId} {w wa w2 : World} {B p : Nat} {v v2 : Value} {l l2 : List Int} {m : Nat} (h : WrAt T E w B p v l) (hk : Kept (fun _ => False) w wa)
    (hown : w2.ownsRow B E 1 v2 (l.length + m) (u8s l ++ u8s l2)) (hg : wa.grownBy w2 v.ownBlock) (hm : m = l2.length)
    (hat : v2.ownBlock = v.ownBlock ∨ v2.ownBlock = some wa.heap.size) : WrTo T E w (w2.setCell ⟨p, 0, none⟩ v2) B p v (l ++ l2) := by
  have hp := h.lt
  have hpa : p < wa.heap.size := Nat.lt_of_lt_of_le hp hk.size
  have k2 : Kept (fun k => k = p ∨ v.ownBlock = some k) w w2 := (hk.mono (fun _ _ x => x.elim)).grown hg (fun k e _ => .inr e)
  have hbox : w2.heap[p]? = some (.cells #[v] T (0, 0)) := by
    rw [hg.block p hpa (fun e => h.apart e.symm)]
    exact hk.same h.box (fun x => x)
  have hne : v2.ownBlock ≠ some p := by
    rcases hat with e | e
    · rw [e]; exact h.apart
    · rw [e]; simp; omega
  refine ⟨v2, ⟨h.base, ?_, ?_, hne⟩, ?_, k2.setCell (fun _ => .inl rfl) v2⟩
  · exact one_setCell hbox
  · have := ((Kept.refl (fun k => k = p) w2).setCell (p := ⟨p, 0, none⟩) (fun _ => rfl) v2).owns hown (fun k e x => hne (by rw [e, x]))
    simpa [u8s, hm] using this
  · rcases hat with e | e
    · exact .inl e
    · exact .inr ⟨_, e, hk.size⟩

/-- Behind an append, ahead of the store: the box is as it was. -/
theorem WrAt.behind {T E : TypeId} {w wa w2 : World} {B p : Nat} {v : Value} {l : List Int} (h : WrAt T E w B p v l) (hk : Kept (fun _ => False) w wa) (hg : wa.grownBy w2 v.ownBlock) :
    w2.heap[p]? = some (.cells #[v] T (0, 0)) := by
  rw [hg.block p (Nat.lt_of_lt_of_le h.lt hk.size) (fun e => h.apart e.symm)]
  exact hk.same h.box (fun x => x)
theorem WrAt.cell {T E : TypeId} {w : World} {B p : Nat} {v : Value} {l : List Int} (h : WrAt T E w B p v l) : w.cell? ⟨p, 0, none⟩ = some v := cell_of_one h.box
theorem WrAt.free {T E : TypeId} {w : World} {B p : Nat} {v : Value} {l : List Int} (h : WrAt T E w B p v l) : w.frozen? ⟨p, 0, none⟩ = false := free_of_one h.box

theorem Tryz.info5 : (Tryz.prog.info? 5).map (fun i => (i.zero, i.size, i.bytes)) = some (some (.int .u8 0), 1, 1) := by kernel_rfl

end Go.Proofs.YteflepcmblacaaaGreatDoor

-- P3
namespace Go.Proofs.YteflepcmblacaaaGreatDoor
open Go.RowKit
attribute [local go_sem ↓] Go.wp_at_zero Go.wp_at_succ

set_option maxHeartbeats 1000000 in
set_option maxRecDepth 100000 in
theorem num_any (B p : Nat) (v : Value) (l : List Int) (x : Int) (w : World) (HW : WrAt 82 5 w B p v l) (hB : B ≤ w.heap.size) (h0 : 0 ≤ x) (h1 : x ≤ 18446744073709551615)
    (hl : l.length ≤ 1000000000) :
    Calls Tryz.prog 22 #[.pointer (some ⟨p, 0, none⟩), .int .u64 x] w fun e w' => e = .returned (.tuple #[]) ∧ WrTo 82 5 w w' B p v (l ++ numB x) := by
  obtain ⟨i0, hi, hz0, hz1, hz2⟩ := info_parts Tryz.info5
  have hc := HW.cell
  have hf := HW.free
  have hk8 := oth_le x
  have hk8' : (oth x : Int) ≤ 8 := by omega
  have hk0 : (0 : Int) ≤ (oth x : Int) := by omega
  have e1 : IntKind.i64.wrap (8 * (oth x : Int)) = 8 * (oth x : Int) := IntWalk.i64_in _ ⟨by omega, by omega⟩
  have e2 : (0 : Int) ≤ 8 * (oth x : Int) := by omega
  have e3 : 8 * (oth x : Int) ≤ 64 := by omega
  have HY := Lib.hid (first_bits x h0 h1)
  obtain ⟨ao, cp, rfl⟩ := ownsRow_slice HW.owns
  have hp := HW.lt
  have hne : ¬ some p = (Value.slice ao l.length cp).ownBlock := fun e => HW.apart e.symm
  go_enter Tryz.func22, Tryz.ntmps22
  go_wp2_with (go_at_call 47; refine (others_any _ h0 h1 _).mono ?_; rintro e w' ⟨rfl, rfl⟩)
  go_cut [] (fun wc => WrTo 82 5 w wc B p (.slice ao l.length cp) (l ++ [firstB x (oth x)]))
  case first =>
    go_region_law
      ((refine step_append_src _ (by rfl) (.tmp 16) (.tmp 24) 33 33 (by rfl) B 5 i0 (.int .u8 0) 1 1 Tryz.underlying33 hi hz0 hz1 hz2 rfl (.slice ao l.length cp) l.length (u8s l) (by rfl) (by exact (HW.owns.alloc _).drew) (.slice (some ⟨w.heap.size, 0, none⟩) 1 1) 1 [(.int .u8 (bits .or .u8 (bits .xor .u8 IntKind.u8.max (255 / 2 ^ oth x)) (IntKind.u8.wrap (x / 2 ^ (8 * (oth x : Int)).toNat))))] (by rfl) (by exact src_one_drew w Tryz.underlying33 (.int .u8 (bits .or .u8 (bits .xor .u8 IntKind.u8.max (255 / 2 ^ oth x)) (IntKind.u8.wrap (x / 2 ^ (8 * (oth x : Int)).toNat)))) rfl) (by unfold maxLen; omega) (by omega) (by simp; omega) ?_; intro v1 w1 hown hg _ hat; obtain ⟨a1, c1, rfl⟩ := ownsRow_slice hown; have hk1 : Kept (fun _ => False) w (w.alloc (.cells #[(.int .u8 (bits .or .u8 (bits .xor .u8 IntKind.u8.max (255 / 2 ^ oth x)) (IntKind.u8.wrap (x / 2 ^ (8 * (oth x : Int)).toNat))))] 5)).drew := ((Kept.refl _ _).alloc _).drew; have hbox := HW.behind hk1 hg; have hc1 := cell_of_one hbox; have hf1 := free_of_one hbox))
    all_goals
      try go_wp2_with fail
      go_meet
      case rel =>
        rw [HY.out] at hown
        exact HW.pushed hk1 hown hg rfl hat
  case rest =>
    go_wp2
    go_loopw [29] (fun i wr => ∃ j : Nat, j ≤ oth x ∧ i = .int .i64 j ∧ WrTo 82 5 w wr B p (.slice ao l.length cp) (l ++ firstB x (oth x) :: restB x (oth x) j)) (fun i _ => oth x - (intOf i).toNat)
    case atStart => exact ⟨0, Nat.zero_le _, rfl, hcut⟩
    case round =>
      obtain ⟨j, hj, rfl, hto⟩ := hrel
      by_cases hd : j < oth x
      · have hj0 : (0 : Int) ≤ (j : Int) := by omega
        have hj1 : (j : Int) < (oth x : Int) := by omega
        have e4 : IntKind.i64.wrap ((oth x : Int) - 1) = (oth x : Int) - 1 := IntWalk.i64_in _ ⟨by omega, by omega⟩
        have e5 : IntKind.i64.wrap ((oth x : Int) - 1 - (j : Int)) = (oth x : Int) - 1 - (j : Int) := IntWalk.i64_in _ ⟨by omega, by omega⟩
        have e6 : IntKind.i64.wrap (8 * ((oth x : Int) - 1 - (j : Int))) = 8 * ((oth x : Int) - 1 - (j : Int)) := IntWalk.i64_in _ ⟨by omega, by omega⟩
        have e7 : (0 : Int) ≤ 8 * ((oth x : Int) - 1 - (j : Int)) := by omega
        have e8 : 8 * ((oth x : Int) - 1 - (j : Int)) ≤ 64 := by omega
        obtain ⟨v1, HW1, hsz1, back⟩ := hto.part
        have hB1 : B ≤ wr.heap.size := Nat.le_trans hB hsz1
        have hlen1 : (l ++ firstB x (oth x) :: restB x (oth x) j).length ≤ 1000000010 := by simp [restB_length]; omega
        obtain ⟨l1, hl1⟩ : ∃ l1, l1 = l ++ firstB x (oth x) :: restB x (oth x) j := ⟨_, rfl⟩
        rw [← hl1] at HW1 hlen1
        have HY1 := Lib.hid (byte_shift x (8 * ((oth x : Int) - 1 - (j : Int))) (oth x - 1 - j) (by omega))
        have HL1 := Lib.hid hl1
        clear hl1
        have hc1 := HW1.cell
        have hf1 := HW1.free
        have hp1 := HW1.lt
        obtain ⟨ao1, cp1, rfl⟩ := ownsRow_slice HW1.owns
        clear hc hf HW hne hp hto
        go_wp2
        go_region_law
          ((refine step_append_src _ (by rfl) (.tmp 36) (.tmp 45) 33 33 (by rfl) B 5 i0 (.int .u8 0) 1 1 Tryz.underlying33 hi hz0 hz1 hz2 rfl (.slice ao1 l1.length cp1) l1.length (u8s l1) (by rfl) (by exact (HW1.owns.alloc _).drew) (.slice (some ⟨wr.heap.size, 0, none⟩) 1 1) 1 [(.int .u8 (IntKind.u8.wrap (x / 2 ^ (8 * ((oth x : Int) - 1 - (j : Int))).toNat)))] (by rfl) (by exact src_one_drew wr Tryz.underlying33 (.int .u8 (IntKind.u8.wrap (x / 2 ^ (8 * ((oth x : Int) - 1 - (j : Int))).toNat))) rfl) (by unfold maxLen; omega) (by omega) (by simp; omega) ?_; intro v1 w1 hown hg _ hat; obtain ⟨a1, c1, rfl⟩ := ownsRow_slice hown; have hk1 : Kept (fun _ => False) wr (wr.alloc (.cells #[(.int .u8 (IntKind.u8.wrap (x / 2 ^ (8 * ((oth x : Int) - 1 - (j : Int))).toNat)))] 5)).drew := ((Kept.refl _ _).alloc _).drew; have hbox := HW1.behind hk1 hg; have hc1 := cell_of_one hbox; have hf1 := free_of_one hbox))
        all_goals
          rw [HY1.out] at hown
          have fin := Lib.hid (back.out _ _ (HW1.pushed (l2 := [byteI x (oth x - 1 - j)]) hk1 hown hg rfl hat))
          clear hown hg hat
          go_wp2
          go_roundw
          case rel =>
            have e : l1 ++ [byteI x (oth x - 1 - j)] = l ++ firstB x (oth x) :: restB x (oth x) (j + 1) := by rw [HL1.out, List.append_assoc, List.cons_append, restB_succ]
            exact ⟨j + 1, hd, by go_num, by rw [← e]; exact fin.out⟩
          case measure => simp [intOf]; omega
      · obtain rfl : j = oth x := by omega
        go_wp2
        go_end0
        exact ⟨rfl, hto⟩
end Go.Proofs.YteflepcmblacaaaGreatDoor

-- P4
namespace Go.Proofs.YteflepcmblacaaaGreatDoor
open Go.RowKit
attribute [local go_sem ↓] Go.wp_at_zero Go.wp_at_succ

theorem u8s_one (l : List Int) : ∀ u ∈ u8s l, u.oneCell' = true := by
  intro u hu; obtain ⟨x, _, rfl⟩ := List.mem_map.1 hu; rfl

/-- A new slice of the bytes l. -/
def Fresh (E : TypeId) (w w' : World) (v : Value) (l : List Int) : Prop :=
  w'.ownsRow w.heap.size E 1 v l.length (u8s l) ∧ Kept (fun _ => False) w w'

def Cloned (E : TypeId) (w : World) (l : List Int) (e : Ending) (w' : World) : Prop := ∃ v, e = .returned v ∧ Fresh E w w' v l

/-- The value v is a slice whose elements, of one cell each, read as xs. -/
structure SliceAt (w : World) (v : Value) (ao : Option Addr) (n c : Nat) (xs : List Value) : Prop where
  val : v = .slice ao n c
  len : xs.length = n
  none : ao = none → n = 0
  cells : ∀ a, ao = some a → ∀ j u, xs[j]? = some u → w.cell? (a.add j) = some u

theorem SliceAt.src {P : Program} {w : World} {v : Value} {ao : Option Addr} {n c : Nat} {xs : List Value} (h : SliceAt w v ao n c xs) {t e : TypeId} (hk : P.underlying t = some (.slice e)) (h1 : ∀ u ∈ xs, u.oneCell' = true) : Src P 1 t v n xs w := by
  obtain ⟨rfl, hl, hn, hc⟩ := h
  cases ao with
  | none =>
    obtain rfl := hn rfl
    have : xs = [] := List.eq_nil_of_length_eq_zero hl
    subst this
    exact Src.ofNil _ hk _
  | some a => exact Src.ofSlice _ hk _ n c xs (by omega) (hc a rfl) h1

theorem SliceAt.to {w w' : World} {v : Value} {ao : Option Addr} {n c : Nat} {xs : List Value} (h : SliceAt w v ao n c xs) (hk : ∀ p u, w.cell? p = some u → (∀ a, ao = some a → p.block = a.block) → w'.cell? p = some u) : SliceAt w' v ao n c xs := by
  refine ⟨h.val, h.len, h.none, fun a ha j u hu => hk _ _ (h.cells a ha j u hu) ?_⟩
  intro a' ha'
  rw [ha] at ha'; cases ha'
  unfold Addr.add; split <;> rfl
theorem SliceAt.alloc {w : World} {v : Value} {ao : Option Addr} {n c : Nat} {xs : List Value} (h : SliceAt w v ao n c xs) (o : Obj) : SliceAt (w.alloc o) v ao n c xs :=
  h.to fun _ _ hp _ => ((Kept.refl (fun _ => False) w).alloc o).cell hp fun x => x
theorem SliceAt.kept {S : Nat → Prop} {w w' : World} {v : Value} {ao : Option Addr} {n c : Nat} {xs : List Value} (h : SliceAt w v ao n c xs) (hk : Kept S w w') (hn : ∀ a, ao = some a → ¬ S a.block) : SliceAt w' v ao n c xs := by
  refine ⟨h.val, h.len, h.none, fun a ha j u hu => ?_⟩
  refine hk.cell (h.cells a ha j u hu) ?_
  have : (a.add j).block = a.block := by unfold Addr.add; split <;> rfl
  rw [this]; exact hn a ha
theorem SliceAt.ofOwn {w : World} {base : Nat} {e : TypeId} {v : Value} {n : Nat} {xs : List Value} (ho : w.ownsRow base e 1 v n xs) : ∃ ao c, SliceAt w v ao n c xs ∧ v.ownBlock = ao.map (·.block) := by
  obtain ⟨a, cap, rfl⟩ := ownsRow_slice ho
  refine ⟨a, cap, ⟨rfl, by simpa using ho.1, ?_, ?_⟩, by cases a <;> rfl⟩
  · rintro rfl
    rcases ho.2 with ⟨_, rfl⟩ | ⟨g, cap, cur, e, _⟩
    · rfl
    · cases e
  · rintro a rfl j u hu
    rcases ho.2 with ⟨e, _⟩ | ⟨g, cap', cur, e, _⟩
    · cases e
    · injection e with e1 e2 e3
      injection e1 with e1
      subst e1
      exact ho.cells rfl j u hu

set_option maxHeartbeats 400000 in
theorem clone_any (v : Value) (ao : Option Addr) (c : Nat) (l : List Int) (w : World) (hv : SliceAt w v ao l.length c (u8s l)) (hl : l.length ≤ 100000000000) :
    Calls Tryz.prog 51 #[v] w (Cloned 5 w l) := by
  obtain ⟨i0, hi, hz0, hz1, hz2⟩ := info_parts Tryz.info5
  have q29 := fun (w : World) (a : Option Addr) (n c n' c' : Nat) => Lib.run_eql_slice_nil (P := Tryz.prog) w 33 5 a n c n' c' Tryz.underlying33
  obtain rfl := hv.val
  cases ao with
  | none =>
    have hn : l = [] := List.eq_nil_of_length_eq_zero (hv.none rfl)
    subst hn
    go_enter Tryz.func51, Tryz.ntmps51
    go_wp2
    go_ret
    exact ⟨_, rfl, World.ownsRow_nil _ _ _ _, Kept.refl _ _⟩
  | some a =>
    have hs := (hv.alloc (.cells #[] 5)).src Tryz.underlying33 (u8s_one l)
    have hown0 : (w.alloc (.cells #[] 5)).ownsRow w.heap.size 5 1 (.slice (some ⟨w.heap.size, 0, none⟩) 0 0) 0 [] :=
      ⟨rfl, .inr ⟨w.heap.size, 0, #[], rfl, Nat.le_refl _, heap_alloc_new w _, Nat.le_refl _, by unfold maxLen; omega, rfl, rfl⟩⟩
    go_enter Tryz.func51, Tryz.ntmps51
    go_wp2_with (at_builtin; refine wpList_append_src _ rfl (.tmp 5) (.tmp 6) 33 33 rfl w.heap.size 5 i0 (.int .u8 0) 1 1 Tryz.underlying33 hi hz0 hz1 hz2 rfl (.slice (some ⟨w.heap.size, 0, none⟩) 0 0) 0 [] rfl hown0 (.slice (some a) l.length c) l.length (u8s l) rfl hs ?c1 ?c2 ?c3 ?_)
    case c1 => unfold maxLen; omega
    case c2 => omega
    case c3 => first | omega | (simp; try omega)
    · intro v' w1 hown hg _ hat
      have hk : Kept (fun _ => False) w w1 := ((Kept.refl _ w).alloc _).grown hg (fun k hk hlt => by simp [Value.ownBlock] at hk; omega)
      have hf : Fresh 5 w w1 v' l := ⟨by simpa using hown, hk⟩
      clear hown hg hat hs hown0
      go_wp2
      go_ret
      exact ⟨v', rfl, hf⟩

set_option maxHeartbeats 400000 in
theorem newWriter_any (w : World) :
    Calls Tryz.prog 18 #[] w fun e w' => e = .returned (.pointer (some ⟨w.heap.size, 0, none⟩)) ∧ w' = w.alloc (.cells #[.slice none 0 0] 82) := by
  go_enter Tryz.func18, Tryz.ntmps18
  go_wp2
  go_ret
  exact ⟨rfl, rfl⟩

theorem newWriter_at (B : Nat) (w : World) (hB : B ≤ w.heap.size) : WrAt 82 5 (w.alloc (.cells #[.slice none 0 0] 82)) B w.heap.size (.slice none 0 0) [] :=
  ⟨hB, heap_alloc_new w _, World.ownsRow_nil _ _ _ _, by simp [Value.ownBlock]⟩

set_option maxHeartbeats 400000 in
theorem int_any (B p : Nat) (v : Value) (l : List Int) (x : Int) (w : World) (HW : WrAt 82 5 w B p v l) (hB : B ≤ w.heap.size) (h0 : -9223372036854775808 ≤ x) (h1 : x ≤ 9223372036854775807)
    (hl : l.length ≤ 1000000000) :
    Calls Tryz.prog 48 #[.pointer (some ⟨p, 0, none⟩), .int .i64 x] w fun e w' => e = .returned (.tuple #[]) ∧ WrTo 82 5 w w' B p v (l ++ numB (zigI x)) := by
  have hz := zigI_range x h0 h1
  go_enter Tryz.func48, Tryz.ntmps48
  go_wp2_with (go_at_call 74; refine (zig_any _ h0 h1 _).mono ?_; rintro e w' ⟨rfl, rfl⟩)
  refine (num_any B p v l (zigI x) w HW hB hz.1 hz.2 hl).mono ?_
  rintro e w' ⟨rfl, ht⟩
  go_wp2
  go_end0
  exact ⟨rfl, ht⟩

set_option maxHeartbeats 400000 in
theorem wbytes_any (B p : Nat) (v : Value) (l : List Int) (w : World) (HW : WrAt 82 5 w B p v l) (hl : l.length ≤ 100000000000) :
    Calls Tryz.prog 24 #[.pointer (some ⟨p, 0, none⟩)] w (Cloned 5 w l) := by
  have hc := HW.cell
  obtain ⟨ao, cp, hv, _⟩ := SliceAt.ofOwn HW.owns
  obtain rfl := hv.val
  go_enter Tryz.func24, Tryz.ntmps24
  go_wp2_with fail
  refine (clone_any _ ao cp l w hv hl).mono ?_
  rintro e w' ⟨v', rfl, hf⟩
  go_wp2
  go_ret
  exact ⟨v', rfl, hf⟩
end Go.Proofs.YteflepcmblacaaaGreatDoor

-- P5
namespace Go.Proofs.YteflepcmblacaaaGreatDoor
open Go.RowKit
attribute [local go_sem ↓] Go.wp_at_zero Go.wp_at_succ

/-- A text's bytes as numbers. -/
def strB (s : ByteArray) : List Int := s.data.toList.map fun b => (b.toNat : Int)
theorem strB_cells (s : ByteArray) : u8s (strB s) = byteCells s := by simp [u8s, strB, byteCells]
theorem strB_length (s : ByteArray) : (strB s).length = s.size := by
  unfold strB; rw [List.length_map, Array.length_toList]; rfl

set_option maxHeartbeats 400000 in
theorem text_any (B p : Nat) (v : Value) (l : List Int) (s : ByteArray) (w : World) (HW : WrAt 82 5 w B p v l) (hB : B ≤ w.heap.size) (hs : s.size ≤ 1000000000)
    (hl : l.length ≤ 1000000000) :
    Calls Tryz.prog 20 #[.pointer (some ⟨p, 0, none⟩), .string s] w fun e w' => e = .returned (.tuple #[]) ∧ WrTo 82 5 w w' B p v (l ++ numB s.size ++ strB s) := by
  obtain ⟨i0, hi, hz0, hz1, hz2⟩ := info_parts Tryz.info5
  have ho := oth_le s.size
  have e0 : IntKind.u64.wrap (s.size : Int) = s.size := wrap_u64_of _ (by omega) (by omega)
  go_enter Tryz.func20, Tryz.ntmps20
  go_wp2_with fail
  refine (num_any B p v l s.size w HW hB (by omega) (by omega) hl).mono ?_
  rintro e w' ⟨rfl, ht⟩
  obtain ⟨v1, HW1, hsz1, back⟩ := ht.part
  have hB1 : B ≤ w'.heap.size := Nat.le_trans hB hsz1
  have hlen1 : (l ++ numB s.size).length ≤ 1000000010 := by simp [numB_length]; omega
  generalize hl1 : l ++ numB s.size = l1 at *
  have HL1 := Lib.hid hl1
  clear hl1 ht
  have hc1 := HW1.cell
  have hf1 := HW1.free
  have hp1 := HW1.lt
  have hs2 := Lib.hid (strB_cells s)
  have hs3 := Lib.hid (strB_length s)
  obtain ⟨ao1, cp1, rfl⟩ := ownsRow_slice HW1.owns
  clear HW
  go_wp2_with (at_builtin; refine wpList_append_src _ rfl (.tmp 13) (.tmp 14) 33 9 rfl B 5 i0 (.int .u8 0) 1 1 Tryz.underlying33 hi hz0 hz1 hz2 rfl (.slice ao1 l1.length cp1) l1.length (u8s l1) rfl HW1.owns (.string s) s.size (byteCells s) rfl (Src.ofString w' Tryz.underlying9 s) ?c1 ?c2 hB1 ?_)
  case c1 => unfold maxLen; omega
  case c2 => omega
  · intro v' w1 hown hg _ hat
    have hbox := HW1.behind (Kept.refl _ _) hg
    have hc2 := cell_of_one hbox
    have hf2 := free_of_one hbox
    obtain ⟨a', c', rfl⟩ := ownsRow_slice hown
    rw [← hs2.out] at hown
    have fin := Lib.hid (back.out _ _ (HW1.pushed (l2 := strB s) (Kept.refl _ _) hown hg hs3.out.symm hat))
    clear hown hg hat hc1 hf1
    go_wp2
    go_end0
    exact ⟨rfl, by rw [HL1.out]; exact fin.out⟩

/-- The reader behind the pointer to block p has the bytes l, of which at are taken, and the error e. -/
structure RdAt (T E : TypeId) (w : World) (B p : Nat) (v : Value) (l : List Int) (at' : Nat) (e : Int) : Prop where
  base : B ≤ p
  box : w.heap[p]? = some (.cells #[v, .int .i64 at', .int .i64 e] T (0, 0))
  owns : w.ownsRow B E 1 v l.length (u8s l)
  apart : v.ownBlock ≠ some p
  taken : at' ≤ l.length
  byte : ∀ x ∈ l, 0 ≤ x ∧ x < 256

theorem RdAt.lt {T E : TypeId} {w : World} {B p : Nat} {v : Value} {l : List Int} {t : Nat} {e : Int} (h : RdAt T E w B p v l t e) : p < w.heap.size := (Array.getElem?_eq_some_iff.1 h.box).1
theorem RdAt.kept {T E : TypeId} {w w' : World} {B p : Nat} {v : Value} {l : List Int} {t : Nat} {e : Int} {S : Nat → Prop} (h : RdAt T E w B p v l t e) (hk : Kept S w w') (hp : ¬ S p) (hv : ∀ k, v.ownBlock = some k → ¬ S k) : RdAt T E w' B p v l t e :=
  ⟨h.base, hk.same h.box hp, hk.owns h.owns hv, h.apart, h.taken, h.byte⟩
theorem RdAt.drewN {T E : TypeId} {w : World} {B p : Nat} {v : Value} {l : List Int} {t : Nat} {e : Int} (h : RdAt T E w B p v l t e) (q : Nat) : RdAt T E (w.drewN q) B p v l t e :=
  h.kept ((Kept.refl (fun _ => False) w).drewN q) (fun x => x) (fun _ _ x => x)
theorem RdAt.c0 {T E : TypeId} {w : World} {B p : Nat} {v : Value} {l : List Int} {t : Nat} {e : Int} (h : RdAt T E w B p v l t e) : w.cell? ⟨p, 0, none⟩ = some v := by rw [cell_of_row w p 0 _ _ _ h.box]; rfl
theorem RdAt.c1 {T E : TypeId} {w : World} {B p : Nat} {v : Value} {l : List Int} {t : Nat} {e : Int} (h : RdAt T E w B p v l t e) : w.cell? ⟨p, 1, none⟩ = some (.int .i64 t) := by rw [cell_of_row w p 1 _ _ _ h.box]; rfl
theorem RdAt.c2 {T E : TypeId} {w : World} {B p : Nat} {v : Value} {l : List Int} {t : Nat} {e : Int} (h : RdAt T E w B p v l t e) : w.cell? ⟨p, 2, none⟩ = some (.int .i64 e) := by rw [cell_of_row w p 2 _ _ _ h.box]; rfl

def Drawn (w w' : World) (P : Prop) : Prop := P ∧ ∃ q, w' = w.drewN q

set_option maxHeartbeats 400000 in
theorem left_any (B p : Nat) (v : Value) (l : List Int) (t : Nat) (e : Int) (w : World) (HR : RdAt 96 5 w B p v l t e) (hl : l.length ≤ 100000000000) :
    Calls Tryz.prog 65 #[.pointer (some ⟨p, 0, none⟩)] w fun e w' => Drawn w w' (e = .returned (.int .i64 ((l.length : Int) - t))) := by
  have hc := HR.c0
  have hc1 := HR.c1
  have ht := HR.taken
  have e1 : IntKind.i64.wrap ((l.length : Int) - (t : Int)) = (l.length : Int) - (t : Int) := IntWalk.i64_in _ ⟨by omega, by omega⟩
  obtain ⟨ao, cp, rfl⟩ := ownsRow_slice HR.owns
  go_enter Tryz.func65, Tryz.ntmps65
  go_wp2
  go_quiet (fail)
  go_wp2
  go_ret
  exact ⟨rfl, _, rfl⟩

/-- What NewReader leaves: a reader of its own copy. -/
def ReaderMade (T E : TypeId) (w : World) (l : List Int) (e : Ending) (w' : World) : Prop :=
  ∃ p v, e = .returned (.pointer (some ⟨p, 0, none⟩)) ∧ RdAt T E w' w.heap.size p v l 0 0 ∧ Kept (fun _ => False) w w'

set_option maxHeartbeats 400000 in
theorem newReader_any (v : Value) (ao : Option Addr) (c : Nat) (l : List Int) (w : World) (hv : SliceAt w v ao l.length c (u8s l)) (hl : l.length ≤ 100000000000) (hb : ∀ x ∈ l, 0 ≤ x ∧ x < 256) :
    Calls Tryz.prog 34 #[v] w (ReaderMade 96 5 w l) := by
  obtain rfl := hv.val
  go_enter Tryz.func34, Tryz.ntmps34
  go_wp2_with fail
  refine (clone_any _ ao c l w hv hl).mono ?_
  rintro e w' ⟨v', rfl, hown, hk⟩
  have hsz := hk.size
  have fin : ReaderMade 96 5 w l (.returned (.pointer (some ⟨w'.heap.size, 0, none⟩))) (w'.alloc (.cells #[v', .int .i64 0, .int .i64 0] 96)) := by
    refine ⟨w'.heap.size, v', rfl, ⟨hsz, heap_alloc_new w' _, hown.alloc _, ?_, Nat.zero_le _, hb⟩, hk.alloc _⟩
    intro h
    have := (ownsRow_lt hown h).1
    omega
  obtain ⟨a', c', rfl⟩ := ownsRow_slice hown
  clear hown hk
  go_wp2
  go_ret
  exact fin
end Go.Proofs.YteflepcmblacaaaGreatDoor

-- L2
namespace Go.Proofs.YteflepcmblacaaaGreatDoor
open Go.RowKit
/-- How many bits from the top on are set in a byte. -/
def lo (b : Int) : Nat := 8 - Lib.bitLen (255 - b).toNat
/-- The bits behind the first one that isn't set. -/
def topV (b : Int) (k : Nat) : Int := b % ((2 ^ (7 - k) : Nat) : Int)
def bigV (a : Int) (bs : List Int) : Int := bs.foldl (fun v b => v * 256 + b) a
/-- What is read at place t: the number, how many bytes it has, the error. -/
def lookF (l : List Int) (t : Nat) : Int × Nat × Int :=
  if l.length ≤ t then (0, 0, 2) else
  if l.length - t ≤ lo (l.getD t 0) then (0, 0, 2) else
  if oth (bigV (topV (l.getD t 0) (lo (l.getD t 0))) ((l.drop (t + 1)).take (lo (l.getD t 0)))) < lo (l.getD t 0) then (0, 0, 3) else
  (bigV (topV (l.getD t 0) (lo (l.getD t 0))) ((l.drop (t + 1)).take (lo (l.getD t 0))), 1 + lo (l.getD t 0), 0)

theorem lo_le (b : Int) : lo b ≤ 8 := by unfold lo; omega
theorem lo_eq (b : Int) (h0 : 0 ≤ b) (h1 : b < 256) : (8 - (Lib.bitLen (255 - b).toNat : Int)) = (lo b : Int) := by
  have l := Lib.bitLen_le8 ⟨(255 - b).toNat, by omega⟩
  simp only at l
  unfold lo; omega
theorem xor_u8_max (b : Int) (h0 : 0 ≤ b) (h1 : b < 256) : bits .xor .u8 IntKind.u8.max b = 255 - b := by
  obtain ⟨n, rfl⟩ : ∃ n : Nat, b = n := ⟨b.toNat, by omega⟩
  have hn : n < 2 ^ 8 := by omega
  have h := u8_xor_nat 255 n (by omega) (by omega)
  have e : 255 ^^^ n = 255 - n := by
    have b := congrArg BitVec.toNat (BitVec.xor_allOnes (x := BitVec.ofNat 8 n))
    rw [Nat.xor_comm]
    simpa [BitVec.toNat_xor, BitVec.toNat_allOnes, BitVec.toNat_not, Nat.mod_eq_of_lt hn] using b
  rw [e] at h
  have : ((255 - n : Nat) : Int) = 255 - (n : Int) := by omega
  rw [this] at h
  exact h
theorem and_top (b : Int) (k : Nat) (h0 : 0 ≤ b) (h1 : b < 256) (hk : k ≤ 8) : bits .and .u8 b (127 / 2 ^ k) = topV b k := by
  obtain ⟨n, rfl⟩ : ∃ n : Nat, b = n := ⟨b.toNat, by omega⟩
  have e : ∀ j : Nat, (127 : Int) / 2 ^ j = ((127 / 2 ^ j : Nat) : Int) := fun j => by simp
  have hlt : 127 / 2 ^ k < 256 := Nat.lt_of_le_of_lt (Nat.div_le_self _ _) (by omega)
  rw [e, u8_and_nat n _ (by omega) hlt]
  unfold topV
  have : n &&& 127 / 2 ^ k = n % 2 ^ (7 - k) := by
    obtain rfl | rfl | rfl | rfl | rfl | rfl | rfl | rfl | rfl : k = 0 ∨ k = 1 ∨ k = 2 ∨ k = 3 ∨ k = 4 ∨ k = 5 ∨ k = 6 ∨ k = 7 ∨ k = 8 := by omega
    · exact Nat.and_two_pow_sub_one_eq_mod n 7
    · exact Nat.and_two_pow_sub_one_eq_mod n 6
    · exact Nat.and_two_pow_sub_one_eq_mod n 5
    · exact Nat.and_two_pow_sub_one_eq_mod n 4
    · exact Nat.and_two_pow_sub_one_eq_mod n 3
    · exact Nat.and_two_pow_sub_one_eq_mod n 2
    · exact Nat.and_two_pow_sub_one_eq_mod n 1
    · exact Nat.and_two_pow_sub_one_eq_mod n 0
    · exact Nat.and_two_pow_sub_one_eq_mod n 0
  rw [this, Int.natCast_emod]
theorem topV_range (b : Int) (k : Nat) : 0 ≤ topV b k ∧ topV b k < ((2 ^ (7 - k) : Nat) : Int) := by
  have h : (0 : Int) < ((2 ^ (7 - k) : Nat) : Int) := by have := Nat.two_pow_pos (7 - k); omega
  exact ⟨Int.emod_nonneg _ (by omega), Int.emod_lt_of_pos _ h⟩
theorem bigV_snoc (a : Int) (bs : List Int) (x : Int) : bigV a (bs ++ [x]) = bigV a bs * 256 + x := by simp [bigV]
theorem bigV_range (a : Int) (m : Nat) (h0 : 0 ≤ a) (h1 : a < ((2 ^ m : Nat) : Int)) (bs : List Int) (hb : ∀ x ∈ bs, 0 ≤ x ∧ x < 256) : 0 ≤ bigV a bs ∧ bigV a bs < ((2 ^ (m + 8 * bs.length) : Nat) : Int) := by
  induction bs generalizing a m with
  | nil => exact ⟨h0, h1⟩
  | cons y r ih =>
    have hy := hb y (by simp)
    have h := ih (a * 256 + y) (m + 8) (by omega) (by rw [Nat.pow_add]; omega) (fun x hx => hb x (by simp [hx]))
    have e : m + 8 * (y :: r).length = m + 8 + 8 * r.length := by simp only [List.length_cons]; omega
    rw [e]
    exact h
theorem shl8 (v : Int) (h0 : 0 ≤ v) (h1 : v < 72057594037927936) : IntKind.u64.wrap (v * 256) = v * 256 := wrap_u64_of _ (by omega) (by omega)
theorem or_byte (v c : Int) (h0 : 0 ≤ v) (h1 : v < 72057594037927936) (h2 : 0 ≤ c) (h3 : c < 256) : bits .or .u64 (v * 256) c = v * 256 + c := by
  rw [u64_or _ _ (by omega) (by omega) h2 (by omega)]
  rw [nat_join 8 (v * 256).toNat c.toNat (by omega) (by omega)]
  omega
/-- What is read after j of k bytes stays below 2^56 as long as one more comes. -/
theorem bigV_small (b : Int) (k j : Nat) (bs : List Int) (hk : k ≤ 8) (hj : j < k) (hl : bs.length = j) (hb : ∀ x ∈ bs, 0 ≤ x ∧ x < 256) : 0 ≤ bigV (topV b k) bs ∧ bigV (topV b k) bs < 72057594037927936 := by
  have ht := topV_range b k
  have h := bigV_range (topV b k) (7 - k) ht.1 ht.2 bs hb
  refine ⟨h.1, Int.lt_of_lt_of_le h.2 ?_⟩
  have : 2 ^ (7 - k + 8 * bs.length) ≤ 2 ^ 56 := Nat.pow_le_pow_right (by omega) (by omega)
  have e : (2 : Nat) ^ 56 = 72057594037927936 := rfl
  rw [e] at this
  omega
theorem bigV_u64 (b : Int) (k : Nat) (bs : List Int) (hk : k ≤ 8) (hl : bs.length ≤ k) (hb : ∀ x ∈ bs, 0 ≤ x ∧ x < 256) : 0 ≤ bigV (topV b k) bs ∧ bigV (topV b k) bs ≤ 18446744073709551615 := by
  have ht := topV_range b k
  have h := bigV_range (topV b k) (7 - k) ht.1 ht.2 bs hb
  refine ⟨h.1, ?_⟩
  have : 2 ^ (7 - k + 8 * bs.length) ≤ 2 ^ 64 := Nat.pow_le_pow_right (by omega) (by omega)
  have e : (2 : Nat) ^ 64 = 18446744073709551616 := rfl
  rw [e] at this
  omega
end Go.Proofs.YteflepcmblacaaaGreatDoor

-- P6
namespace Go.Proofs.YteflepcmblacaaaGreatDoor
open Go.RowKit
attribute [local go_sem ↓] Go.wp_at_zero Go.wp_at_succ

/-- What a look leaves: v, n, and the error e'. -/
def Looked (T E : TypeId) (w : World) (B p : Nat) (v : Value) (l : List Int) (t : Nat) (r : Int × Nat × Int) (e : Ending) (w' : World) : Prop :=
  e = .returned (.tuple #[.int .u64 r.1, .int .i64 r.2.1]) ∧ RdAt T E w' B p v l t r.2.2 ∧ Kept (fun k => k = p) w w'

/-- The frame at look's label. -/
def AtEnd (p : Nat) (x : Int) (k : Nat) (e : Int) (a : Act) : Prop := ∃ u1 u3 u5 u7 u8 u9 u10 u11 u12 u13 u14 u15 u16 u17 u18 u19 u20 u21 u22 u23 u24 u25 u26 u27 u28 u29 u30 u31 u32 u33 u34 u35 u36 u37 u38 u39 u40 u41 u42 u43 u44 u45 u46 u47 u48 u49 u50 u51 u52 u53 u54 u55 u56 u57 u58 u59 u60 u61 u62 u63 u64 u65 u66 u67 u68 u69 u70 u71 u72 u73 : Value, a = { tmps := #[.pointer (some ⟨p, 0, none⟩), u1, .int .u64 x, u3, .int .i64 (k : Int), u5, .int .i64 e, u7, u8, u9, u10, u11, u12, u13, u14, u15, u16, u17, u18, u19, u20, u21, u22, u23, u24, u25, u26, u27, u28, u29, u30, u31, u32, u33, u34, u35, u36, u37, u38, u39, u40, u41, u42, u43, u44, u45, u46, u47, u48, u49, u50, u51, u52, u53, u54, u55, u56, u57, u58, u59, u60, u61, u62, u63, u64, u65, u66, u67, u68, u69, u70, u71, u72, u73], defers := [] }

/-- What holds at look's label: the number x, k bytes behind the first one, the error e. -/
def AtLabel (T E : TypeId) (w : World) (B p : Nat) (v : Value) (l : List Int) (t : Nat) (r : Int × Nat × Int) (a : Act) (w' : World) : Prop :=
  ∃ x k e e0, AtEnd p x k e a ∧ RdAt T E w' B p v l t e0 ∧ Kept (fun k => k = p) w w' ∧ (e = 0 → e0 = 0 ∧ r = (x, 1 + k, 0) ∧ k ≤ 8) ∧ (e ≠ 0 → r = (0, 0, e))

theorem addr_add (g j : Nat) : (⟨g, 0, none⟩ : Addr).add j = ⟨g, j, none⟩ := by unfold Addr.add; split <;> simp_all

theorem RdAt.free {T E : TypeId} {w : World} {B p : Nat} {v : Value} {l : List Int} {t : Nat} {e : Int} (h : RdAt T E w B p v l t e) (j : Nat) : w.frozen? ⟨p, j, none⟩ = false := by
  simp [World.frozen?, h.box]

theorem RdAt.setErr {T E : TypeId} {w : World} {B p : Nat} {v : Value} {l : List Int} {t : Nat} {e e2 : Int} (h : RdAt T E w B p v l t e) : RdAt T E (w.setCell ⟨p, 2, none⟩ (.int .i64 e2)) B p v l t e2 := by
  refine ⟨h.base, ?_, ?_, h.apart, h.taken, h.byte⟩
  · have e := h.box
    simp [World.setCell, Array.getElem?_modify, e]
  · exact ((Kept.refl (fun k => k = p) w).setCell (p := ⟨p, 2, none⟩) (fun _ => rfl) _).owns h.owns (fun k e x => h.apart (by rw [e, x]))

theorem lz_any (b : Int) (h0 : 0 ≤ b) (h1 : b < 256) (w : World) :
    Calls Tryz.prog 88 #[.int .u8 (255 - b)] w fun e w' => e = .returned (.int .i64 (lo b)) ∧ w = w' :=
  (Tryz.bits_LeadingZeros8 (255 - b) w (by omega) (by omega)).mono fun e w' ⟨he, hw⟩ => ⟨by rw [he, lo_eq b h0 h1], hw.symm⟩

set_option maxHeartbeats 1000000 in
set_option maxRecDepth 100000 in
theorem look_any (B p : Nat) (v : Value) (l : List Int) (t : Nat) (w : World) (HR : RdAt 96 5 w B p v l t 0) (hl : l.length ≤ 100000000000) :
    Calls Tryz.prog 80 #[.pointer (some ⟨p, 0, none⟩)] w (Looked 96 5 w B p v l t (lookF l t)) := by
  have hc2 := HR.c2
  have ht := HR.taken
  go_enter Tryz.func80, Tryz.ntmps80
  go_wp2
  refine wp_scope_jumps 0 (AtLabel 96 5 w B p v l t (lookF l t)) (fun _ _ => 0) rfl ?_ ?_
  · have hcase : l.length ≤ t ∨ t < l.length := by omega
    rcases hcase with hA | hA
    · have q1 : (((l.length : Int) - (t : Int)) == 0) = true := by simp; omega
      have hL : lookF l t = (0, 0, 2) := by unfold lookF; rw [if_pos hA]
      have HL := Lib.hid hL
      clear hL
      go_wp2
      go_quiet (fail)
      go_wp2_with (go_at_call 65; refine (left_any B p _ l t 0 _ (HR.drewN _) hl).mono ?_; rintro e w' ⟨rfl, q, rfl⟩)
      go_step3
      exact ⟨rfl, 0, 0, 2, 0, ⟨_, _, _, _, _, _, _, _, _, _, _, _, _, _, _, _, _, _, _, _, _, _, _, _, _, _, _, _, _, _, _, _, _, _, _, _, _, _, _, _, _, _, _, _, _, _, _, _, _, _, _, _, _, _, _, _, _, _, _, _, _, _, _, _, _, _, _, _, _, _, rfl⟩, HR.drewN _, (Kept.refl _ _).drewN _, fun h => absurd h (by decide), fun _ => HL.out⟩
    · have q1 : (((l.length : Int) - (t : Int)) == 0) = false := by simp; omega
      obtain ⟨g, cap, rfl, _, _⟩ := HR.owns.form (by omega)
      obtain ⟨b, hb⟩ : ∃ b, b = l.getD t 0 := ⟨_, rfl⟩
      have hbm : b ∈ l := by rw [hb, List.getD_eq_getElem?_getD, List.getElem?_eq_getElem hA]; simp
      obtain ⟨b0, b1⟩ := HR.byte b hbm
      have hcell : w.cell? ⟨g, t, none⟩ = some (.int .u8 b) := by
        have := HR.owns.cells (g := g) rfl t (.int .u8 b) (by rw [hb, List.getD_eq_getElem?_getD, List.getElem?_eq_getElem hA]; simp [List.getElem?_eq_getElem hA])
        rwa [addr_add] at this
      have HB := Lib.hid hb
      clear hb
      have hc0 := HR.c0
      have hc1 := HR.c1
      have x1 := xor_u8_max b b0 b1
      have ll := lo_le b
      have k0 : (0 : Int) ≤ (lo b : Int) := by omega
      have k8 : (lo b : Int) ≤ 8 := by omega
      have t0 : (0 : Int) ≤ (t : Int) := by omega
      have t1 : (t : Int) < (l.length : Int) := by omega
      by_cases hB : l.length - t ≤ lo b
      · have hL : lookF l t = (0, 0, 2) := by unfold lookF; rw [← HB.out, if_neg (by omega), if_pos hB]
        have HL := Lib.hid hL
        clear hL
        have q2 : (l.length : Int) - (t : Int) ≤ (lo b : Int) := by omega
        go_wp2
        go_quiet (fail)
        go_wp2_with (go_at_call 65; refine (left_any B p _ l t 0 _ (HR.drewN _) hl).mono ?_; rintro e w' ⟨rfl, q, rfl⟩)
        go_quiet (fail)
        go_wp2_with (first | (go_at_call 65; refine (left_any B p _ l t 0 _ (HR.drewN _) hl).mono ?_; rintro e w' ⟨rfl, q, rfl⟩) | (go_at_call 88; refine (lz_any b b0 b1 _).mono ?_; rintro e w' ⟨rfl, rfl⟩))
        go_step3
        exact ⟨rfl, 0, lo b, 2, 0, ⟨_, _, _, _, _, _, _, _, _, _, _, _, _, _, _, _, _, _, _, _, _, _, _, _, _, _, _, _, _, _, _, _, _, _, _, _, _, _, _, _, _, _, _, _, _, _, _, _, _, _, _, _, _, _, _, _, _, _, _, _, _, _, _, _, _, _, _, _, _, _, rfl⟩, HR.drewN _, (Kept.refl _ _).drewN _, fun h => absurd h (by decide), fun _ => HL.out⟩
      · have q2 : ¬ ((l.length : Int) - (t : Int) ≤ (lo b : Int)) := by omega
        have a1 := and_top b (lo b) b0 b1 ll
        have htp := topV_range b (lo b)
        have a2 : IntKind.u64.wrap (topV b (lo b)) = topV b (lo b) := wrap_u64_of _ htp.1 (by have h := htp.2; have h2 : 2 ^ (7 - lo b) ≤ 2 ^ 7 := Nat.pow_le_pow_right (by omega) (by omega); omega)
        clear htp
        go_wp2
        go_quiet (fail)
        go_wp2_with (go_at_call 65; refine (left_any B p _ l t 0 _ (HR.drewN _) hl).mono ?_; rintro e w' ⟨rfl, q, rfl⟩)
        go_quiet (fail)
        go_wp2_with (first | (go_at_call 65; refine (left_any B p _ l t 0 _ (HR.drewN _) hl).mono ?_; rintro e w' ⟨rfl, q, rfl⟩) | (go_at_call 88; refine (lz_any b b0 b1 _).mono ?_; rintro e w' ⟨rfl, rfl⟩))
        go_loopw [2, 40] (fun x i wr => ∃ j : Nat, j ≤ lo b ∧ i = .int .i64 j ∧ x = .int .u64 (bigV (topV b (lo b)) ((l.drop (t + 1)).take j)) ∧ ∃ q, wr = w.drewN q) (fun _ i _ => lo b - (intOf i).toNat)
        case atStart => exact ⟨0, Nat.zero_le _, rfl, by simp [bigV], _, rfl⟩
        case round =>
          obtain ⟨j, hj, rfl, rfl, qr, rfl⟩ := hrel
          have hbs : ∀ x ∈ (l.drop (t + 1)).take j, 0 ≤ x ∧ x < 256 := fun x hx => HR.byte x (List.mem_of_mem_drop (List.mem_of_mem_take hx))
          have hbl : ((l.drop (t + 1)).take j).length = j := by rw [List.length_take, List.length_drop]; omega
          by_cases hd : j < lo b
          · have hv := bigV_small b (lo b) j _ ll hd hbl hbs
            have hin : t + 1 + j < l.length := by omega
            obtain ⟨c, hc⟩ : ∃ c, c = l.getD (t + 1 + j) 0 := ⟨_, rfl⟩
            have hg : l[t + 1 + j]? = some c := by rw [hc, List.getD_eq_getElem?_getD, List.getElem?_eq_getElem hin]; simp
            have hcm : c ∈ l := List.mem_of_getElem? hg
            obtain ⟨c0, c1⟩ := HR.byte c hcm
            have hcell2 : w.cell? ⟨g, t + 1 + j, none⟩ = some (.int .u8 c) := by
              have := HR.owns.cells (g := g) rfl (t + 1 + j) (.int .u8 c) (by simp [hg])
              rwa [addr_add] at this
            have hsn : (l.drop (t + 1)).take (j + 1) = (l.drop (t + 1)).take j ++ [c] := by
              rw [List.take_add_one, List.getElem?_drop, hg]; rfl
            obtain ⟨V, hV⟩ : ∃ V, V = bigV (topV b (lo b)) ((l.drop (t + 1)).take j) := ⟨_, rfl⟩
            rw [← hV] at hv ⊢
            have HV : Hid (bigV (topV b (lo b)) ((l.drop (t + 1)).take (j + 1)) = V * 256 + c) := by rw [hsn, bigV_snoc, ← hV]; rfl
            clear hV hsn hc hg hbs hbl
            obtain ⟨v0, v1⟩ := hv
            have s1 := shl8 V v0 v1
            have s2 := or_byte V c v0 v1 c0 c1
            have j0 : (0 : Int) ≤ (j : Int) := by omega
            have j1 : (t : Int) + 1 + (j : Int) < (l.length : Int) := by omega
            have w1 : IntKind.i64.wrap ((t : Int) + 1) = (t : Int) + 1 := IntWalk.i64_in _ ⟨by omega, by omega⟩
            have w2 : IntKind.i64.wrap ((t : Int) + 1 + (j : Int)) = (t : Int) + 1 + (j : Int) := IntWalk.i64_in _ ⟨by omega, by omega⟩
            have w3 : ((t : Int) + 1 + (j : Int)).toNat = t + 1 + j := by omega
            go_wp2
            go_quiet (fail)
            go_wp2
            go_roundw
            case rel => exact ⟨j + 1, hd, by go_num, by rw [HV.out], _, rfl⟩
            case measure => simp [intOf]; omega
          · obtain rfl : j = lo b := by omega
            have hX := bigV_u64 b (lo b) _ ll (by omega) hbs
            have hLs : oth (bigV (topV b (lo b)) ((l.drop (t + 1)).take (lo b))) < lo b → lookF l t = (0, 0, 3) := fun h => by
              unfold lookF; rw [← HB.out, if_neg (by omega), if_neg hB, if_pos h]
            have hLb : ¬ oth (bigV (topV b (lo b)) ((l.drop (t + 1)).take (lo b))) < lo b → lookF l t = (bigV (topV b (lo b)) ((l.drop (t + 1)).take (lo b)), 1 + lo b, 0) := fun h => by
              unfold lookF; rw [← HB.out, if_neg (by omega), if_neg hB, if_neg h]
            have HLs := Lib.hid hLs
            have HLb := Lib.hid hLb
            clear hLs hLb hbs hbl
            generalize bigV (topV b (lo b)) ((l.drop (t + 1)).take (lo b)) = X at *
            obtain ⟨X0, X1⟩ := hX
            by_cases ho : oth X < lo b
            · have o1 : ((oth X : Nat) : Int) < ((lo b : Nat) : Int) := by omega
              have HL := Lib.hid (HLs.out ho)
              clear HLs HLb ho
              go_wp2_with (go_at_call 47; refine (others_any X X0 X1 _).mono ?_; rintro e w' ⟨rfl, rfl⟩)
              go_step3
              exact ⟨rfl, X, lo b, 3, 0, ⟨_, _, _, _, _, _, _, _, _, _, _, _, _, _, _, _, _, _, _, _, _, _, _, _, _, _, _, _, _, _, _, _, _, _, _, _, _, _, _, _, _, _, _, _, _, _, _, _, _, _, _, _, _, _, _, _, _, _, _, _, _, _, _, _, _, _, _, _, _, _, rfl⟩, HR.drewN _, (Kept.refl _ _).drewN _, fun h => absurd h (by decide), fun _ => HL.out⟩
            · have o1 : ¬ ((oth X : Nat) : Int) < ((lo b : Nat) : Int) := by omega
              have HL := Lib.hid (HLb.out ho)
              clear HLs HLb ho
              have m1 : IntKind.i64.wrap (1 + ((lo b : Nat) : Int)) = 1 + ((lo b : Nat) : Int) := IntWalk.i64_in _ ⟨by omega, by omega⟩
              go_wp2_with (go_at_call 47; refine (others_any X X0 X1 _).mono ?_; rintro e w' ⟨rfl, rfl⟩)
              go_step3
              go_wp2
              simp only [Exit.jump]
              go_ret2
              exact ⟨by rw [HL.out]; simp, by rw [HL.out]; exact HR.drewN _, (Kept.refl _ _).drewN _⟩
  · intro a wl hJ
    obtain ⟨x, k, e, e0, ⟨_, _, _, _, _, _, _, _, _, _, _, _, _, _, _, _, _, _, _, _, _, _, _, _, _, _, _, _, _, _, _, _, _, _, _, _, _, _, _, _, _, _, _, _, _, _, _, _, _, _, _, _, _, _, _, _, _, _, _, _, _, _, _, _, _, _, _, _, _, _, rfl⟩, HRl, hkl, hz, hnz⟩ := hJ
    have hc2 := HRl.c2
    have hf2 : wl.frozen? ⟨p, 2, none⟩ = false := HRl.free 2
    by_cases he : e = 0
    · subst he
      obtain ⟨rfl, hr, hk⟩ := hz rfl
      have m1 : IntKind.i64.wrap (1 + (k : Int)) = 1 + (k : Int) := IntWalk.i64_in _ ⟨by omega, by omega⟩
      have HH := Lib.hid hr
      clear hr hz hnz
      go_wp2
      simp only [Exit.jump]
      go_ret2
      exact ⟨by rw [HH.out]; simp, by rw [HH.out]; exact HRl, hkl⟩
    · have HH := Lib.hid (hnz he)
      have hb : (e != 0) = true := by simp [he]
      clear hz hnz he
      go_wp2
      simp only [Exit.jump]
      go_ret2
      exact ⟨by rw [HH.out]; simp, by rw [HH.out]; exact HRl.setErr, hkl.setCell (fun _ => rfl) _⟩
end Go.Proofs.YteflepcmblacaaaGreatDoor

-- P7
namespace Go.Proofs.YteflepcmblacaaaGreatDoor
open Go.RowKit
attribute [local go_sem ↓] Go.wp_at_zero Go.wp_at_succ

theorem RdAt.setAt {T E : TypeId} {w : World} {B p : Nat} {v : Value} {l : List Int} {t t2 : Nat} {e : Int} (h : RdAt T E w B p v l t e) (ht : t2 ≤ l.length) : RdAt T E (w.setCell ⟨p, 1, none⟩ (.int .i64 t2)) B p v l t2 e := by
  refine ⟨h.base, ?_, ?_, h.apart, ht, h.byte⟩
  · have e := h.box
    simp [World.setCell, Array.getElem?_modify, e]
  · exact ((Kept.refl (fun k => k = p) w).setCell (p := ⟨p, 1, none⟩) (fun _ => rfl) _).owns h.owns (fun k e x => h.apart (by rw [e, x]))

theorem lookF_taken (l : List Int) (t : Nat) (ht : t ≤ l.length) : t + (lookF l t).2.1 ≤ l.length := by
  unfold lookF
  split
  · simpa using ht
  · split
    · simpa using ht
    · split
      · simpa using ht
      · simp only; omega

/-- What a reading of a number leaves. -/
def Read (T E : TypeId) (w : World) (B p : Nat) (v : Value) (l : List Int) (t : Nat) (r : Int × Nat × Int) (e : Ending) (w' : World) : Prop :=
  e = .returned (.int .u64 r.1) ∧ RdAt T E w' B p v l (t + r.2.1) r.2.2 ∧ Kept (fun k => k = p) w w'

set_option maxHeartbeats 400000 in
theorem rnum_any (B p : Nat) (v : Value) (l : List Int) (t : Nat) (w : World) (HR : RdAt 96 5 w B p v l t 0) (hl : l.length ≤ 100000000000) :
    Calls Tryz.prog 63 #[.pointer (some ⟨p, 0, none⟩)] w (Read 96 5 w B p v l t (lookF l t)) := by
  have htk := lookF_taken l t HR.taken
  go_enter Tryz.func63, Tryz.ntmps63
  go_wp2_with fail
  refine (look_any B p v l t w HR hl).mono ?_
  rintro e w' ⟨rfl, HR1, hk⟩
  generalize hr : lookF l t = r at *
  obtain ⟨x, n, e1⟩ := r
  have hc1 := HR1.c1
  have hf1 := HR1.free 1
  have m1 : IntKind.i64.wrap ((t : Int) + (n : Int)) = (t : Int) + (n : Int) := IntWalk.i64_in _ ⟨by omega, by simp only at htk; omega⟩
  have fin := Lib.hid (HR1.setAt htk)
  have HH := Lib.hid hr
  clear hr
  go_wp2
  go_ret
  refine ⟨rfl, ?_, hk.setCell (fun _ => rfl) _⟩
  have f := fin.out
  simp only [Int.natCast_add] at f
  exact f

/-- A slice that owns its bytes, as a text. -/
theorem run_str_own {P : Program} {w : World} {B : Nat} {v : Value} {l : List Int} {E : TypeId} (ho : w.ownsRow B E 1 v l.length (u8s l)) (src e dst : TypeId) (hs : P.underlying src = some (.slice e)) (he : P.underlying e = some (.int .u8)) (hd : P.underlying dst = some .string) :
    (convert src dst v).run P w = .ok (.string (strOfNums l)) w := by
  rcases ho.2 with ⟨rfl, h0⟩ | ⟨g, cap, cur, rfl, _⟩
  · obtain rfl : l = [] := List.eq_nil_of_length_eq_zero h0
    exact run_convert_bytes_nil w src e hs he 0 0 dst hd
  · refine run_convert_bytes_arg w src e hs he g 0 l.length cap l rfl (fun i hi => ?_) dst hd
    have := ho.cells (g := g) rfl i (.int .u8 (l.getD i 0)) (by simp [List.getD_eq_getElem?_getD, List.getElem?_eq_getElem hi])
    rw [addr_add] at this
    simpa using this

theorem awake2_bytes : ([] : List Int) ++ numB 128 ++ numB ((ByteArray.mk #[97]).size : Nat) ++ strB ⟨#[97]⟩ ++ numB (zigI (-1)) = [128, 128, 1, 97, 1] := by decide
theorem awake2_look : lookF [128, 127] 0 = (0, 0, 3) := by decide

theorem WrTo.below {T E : TypeId} {w w' : World} {B p : Nat} {v : Value} {l l' : List Int} (h : WrAt T E w B p v l) (k : WrTo T E w w' B p v l') : Kept (fun k => B ≤ k) w w' := by
  obtain ⟨_, _, _, k3⟩ := k
  refine k3.mono fun j _ hj => ?_
  rcases hj with rfl | hj
  · exact h.base
  · exact (ownsRow_lt h.owns hj).2

end Go.Proofs.YteflepcmblacaaaGreatDoor

-- L4
namespace Go.Proofs.YteflepcmblacaaaGreatDoor
open Go.RowKit
theorem lo_ones_aux : ∀ b : Fin 256, ∀ j : Fin 8, (j.val < lo (b.val : Int) → b.val / 2 ^ (7 - j.val) % 2 = 1) ∧ (j.val = lo (b.val : Int) → b.val / 2 ^ (7 - j.val) % 2 = 0) := by decide +kernel
theorem lo_ones (b : Int) (j : Nat) (h0 : 0 ≤ b) (h1 : b < 256) (hj : j < 8) :
    (j < lo b → b / ((2 ^ (7 - j) : Nat) : Int) % 2 = 1) ∧ (j = lo b → b / ((2 ^ (7 - j) : Nat) : Int) % 2 = 0) := by
  obtain ⟨n, rfl⟩ : ∃ n : Nat, b = n := ⟨b.toNat, by omega⟩
  have h := lo_ones_aux ⟨n, by omega⟩ ⟨j, hj⟩
  simp only at h
  have e : (n : Int) / ((2 ^ (7 - j) : Nat) : Int) % 2 = ((n / 2 ^ (7 - j) % 2 : Nat) : Int) := by
    rw [Int.natCast_emod, Int.natCast_ediv]; rfl
  rw [e]
  exact ⟨fun x => by rw [h.1 x]; rfl, fun x => by rw [h.2 x]; rfl⟩
theorem oth_of_lt (v : Int) (k : Nat) (hk : k < 8) (h : v < ((2 ^ (7 + 7 * k) : Nat) : Int)) : oth v ≤ k := by
  unfold oth
  obtain rfl | rfl | rfl | rfl | rfl | rfl | rfl | rfl : k = 0 ∨ k = 1 ∨ k = 2 ∨ k = 3 ∨ k = 4 ∨ k = 5 ∨ k = 6 ∨ k = 7 := by omega
  all_goals
    simp at h
    (repeat' split) <;> omega
theorem oth_big (b : Int) (k : Nat) (bs : List Int) (hk : k ≤ 8) (hl : bs.length = k) (hb : ∀ x ∈ bs, 0 ≤ x ∧ x < 256) : oth (bigV (topV b k) bs) ≤ k := by
  by_cases h8 : k = 8
  · rw [h8]; exact oth_le _
  · have ht := topV_range b k
    have h := bigV_range (topV b k) (7 - k) ht.1 ht.2 bs hb
    have e : 7 - k + 8 * bs.length = 7 + 7 * k := by omega
    rw [e] at h
    exact oth_of_lt _ k (by omega) h.2
theorem bigV_one (a x : Int) : bigV a [x] = a * 256 + x := rfl
end Go.Proofs.YteflepcmblacaaaGreatDoor

-- P8
namespace Go.Proofs.YteflepcmblacaaaGreatDoor
open Go.RowKit
attribute [local go_sem ↓] Go.wp_at_zero Go.wp_at_succ

end Go.Proofs.YteflepcmblacaaaGreatDoor

-- P9
namespace Go.Proofs.YteflepcmblacaaaGreatDoor
open Go.RowKit
attribute [local go_sem ↓] Go.wp_at_zero Go.wp_at_succ

/-- What is answered of bytes from a place on. -/
def Got (r : Int × Nat × Int) : Value := .agg #[.int .u64 r.1, .int .i64 r.2.1, .int .i64 r.2.2]

theorem SliceAt.addr {w : World} {v : Value} {ao : Option Addr} {n c : Nat} {l : List Int} (h : SliceAt w v ao n c (u8s l)) (hp : 0 < l.length) :
    ∃ b off, ao = some ⟨b, off, Option.none⟩ ∧ ∀ j, j < l.length → w.cell? ⟨b, off + j, Option.none⟩ = some (.int .u8 (l.getD j 0)) := by
  cases ao with
  | none => have := h.none rfl; have h2 := h.len; simp [u8s] at h2; omega
  | some a =>
    have hc : ∀ i, i < l.length → w.cell? (a.add i) = some (.int .u8 (l.getD i 0)) := fun i hi => h.cells a rfl i _ (by simp [u8s, List.getD_eq_getElem?_getD, List.getElem?_eq_getElem hi])
    obtain ⟨b, off, spot⟩ := a
    have hspot : spot = Option.none := by simpa [Addr.add] using World.cell?_spot (hc 0 hp)
    subst hspot
    exact ⟨b, off, rfl, fun j hj => by rw [← Go.WideShapes.add_plain]; exact hc j hj⟩

theorem getD_mem {l : List Int} {i : Nat} (h : i < l.length) : l.getD i 0 ∈ l := by rw [List.getD_eq_getElem?_getD, List.getElem?_eq_getElem h]; simp

end Go.Proofs.YteflepcmblacaaaGreatDoor

-- L3
namespace Go.Proofs.YteflepcmblacaaaGreatDoor
open Go.ChangeShapes Go.WideShapes Go.ChangeAt Go.RowKit
theorem bd_i64 {a : Int} (h : (Lit.int .i64 a).wf = true) : -9223372036854775808 ≤ a ∧ a ≤ 9223372036854775807 := by
  simpa [Lit.wf, IntKind.min, IntKind.max, IntKind.signed, IntKind.bits] using h
theorem bd_u64 {a : Int} (h : (Lit.int .u64 a).wf = true) : 0 ≤ a ∧ a ≤ 18446744073709551615 := by
  simpa [Lit.wf, IntKind.min, IntKind.max, IntKind.signed, IntKind.bits] using h
theorem bd_u32 {a : Int} (h : (Lit.int .u32 a).wf = true) : 0 ≤ a ∧ a ≤ 4294967295 := by
  simpa [Lit.wf, IntKind.min, IntKind.max, IntKind.signed, IntKind.bits] using h
theorem bd_u8 {a : Int} (h : (Lit.int .u8 a).wf = true) : 0 ≤ a ∧ a ≤ 255 := by
  simpa [Lit.wf, IntKind.min, IntKind.max, IntKind.signed, IntKind.bits] using h

/-- A slice of integers that came in: nil; or it leads to a row of 'cap' cells, the numbers zs, of which the first 'len' are its elements. -/
def IsRow (k : IntKind) (w : World) (a : Option Addr) (len cap : Nat) (zs : List Int) : Prop :=
  (a = none ∧ len = 0 ∧ cap = 0 ∧ zs = []) ∨
  ∃ x, a = some x ∧ len ≤ cap ∧ cap ≤ maxLen ∧ zs.length = cap ∧ (∀ i, i < zs.length → w.cell? (x.add i) = some (.int k (zs.getD i 0))) ∧ ∀ n ∈ zs, (Lit.int k n).wf = true

theorem isRow_of {H : Type} {enc : TypeId × Value → H} {P : Program} {T E : TypeId} {k : IntKind} {W : World} {a : Option Addr} {len cap : Nat} {d : DataW H} {p : List MemPlace} {sp : Nat}
    (hT : P.underlying T = some (.slice E)) (hE : P.underlying E = some (.int k)) (hc : P.cellsOf E = 1) (h : DataW.Trod enc P W sp (fun _ => true) true T (.slice a len cap) d p) : ∃ zs, IsRow k W a len cap zs := by
  obtain ⟨fuel, hf⟩ := h
  rcases open_ints hT hE hc hf with ⟨hcs, _⟩ | ⟨x, l, c, zs, hcs, _, hl, hm, hz, _, hcell, hwz⟩
  · simp [Value.cells] at hcs
    obtain ⟨rfl, rfl, rfl⟩ := hcs
    exact ⟨[], .inl ⟨rfl, rfl, rfl, rfl⟩⟩
  · simp [Value.cells] at hcs
    obtain ⟨rfl, rfl, rfl⟩ := hcs
    exact ⟨zs, .inr ⟨_, rfl, hl, hm, by simpa using hz, hcell, hwz⟩⟩
end Go.Proofs.YteflepcmblacaaaGreatDoor

-- L5
namespace Go.Proofs.YteflepcmblacaaaGreatDoor
open Go.RowKit
theorem lo_first_aux : ∀ b : Fin 256, (b.val : Int) = 256 - ((2 ^ (8 - lo (b.val : Int)) : Nat) : Int) + (b.val : Int) % ((2 ^ (7 - lo (b.val : Int)) : Nat) : Int) := by decide +kernel
theorem lo_first (b : Int) (h0 : 0 ≤ b) (h1 : b < 256) : b = 256 - ((2 ^ (8 - lo b) : Nat) : Int) + topV b (lo b) := by
  obtain ⟨n, rfl⟩ : ∃ n : Nat, b = n := ⟨b.toNat, by omega⟩
  exact lo_first_aux ⟨n, by omega⟩
theorem div256 (V x : Int) (j : Nat) (hx : 0 ≤ x ∧ x < 256) : (V * 256 + x) / ((256 ^ (j + 1) : Nat) : Int) = V / ((256 ^ j : Nat) : Int) := by
  have e : ((256 ^ (j + 1) : Nat) : Int) = 256 * ((256 ^ j : Nat) : Int) := by rw [Nat.pow_succ, Nat.mul_comm]; simp
  rw [e, ← Int.ediv_ediv_of_nonneg (by omega)]
  congr 1
  omega
theorem snocInd {p : List Int → Prop} (h0 : p []) (h1 : ∀ r x, p r → p (r ++ [x])) (bs : List Int) : p bs := by
  have h : ∀ r : List Int, p r.reverse := fun r => by
    induction r with
    | nil => exact h0
    | cons x r ih => rw [List.reverse_cons]; exact h1 _ _ ih
  have := h bs.reverse
  rwa [List.reverse_reverse] at this
theorem bigV_top (a : Int) (bs : List Int) (hb : ∀ x ∈ bs, 0 ≤ x ∧ x < 256) : bigV a bs / ((256 ^ bs.length : Nat) : Int) = a := by
  revert hb
  refine snocInd (p := fun bs => (∀ x ∈ bs, 0 ≤ x ∧ x < 256) → bigV a bs / ((256 ^ bs.length : Nat) : Int) = a) ?_ ?_ bs
  · intro _; simp [bigV]
  · intro r x ih hb
    rw [bigV_snoc, List.length_append]
    show _ / ((256 ^ (r.length + 1) : Nat) : Int) = a
    rw [div256 _ _ _ (hb x (by simp))]
    exact ih fun y hy => hb y (by simp [hy])
theorem bigV_byte (a : Int) (bs : List Int) (hb : ∀ x ∈ bs, 0 ≤ x ∧ x < 256) : (List.range bs.length).map (fun i => byteI (bigV a bs) (bs.length - 1 - i)) = bs := by
  revert hb
  refine snocInd (p := fun bs => (∀ x ∈ bs, 0 ≤ x ∧ x < 256) → (List.range bs.length).map (fun i => byteI (bigV a bs) (bs.length - 1 - i)) = bs) ?_ ?_ bs
  · intro _; rfl
  · intro r x ih hb
    have hx := hb x (by simp)
    rw [bigV_snoc, List.length_append]
    show (List.range (r.length + 1)).map _ = _
    rw [List.range_succ, List.map_append]
    congr 1
    · refine Eq.trans (List.map_congr_left fun i hi => ?_) (ih fun y hy => hb y (by simp [hy]))
      have hi' : i < r.length := by simpa using hi
      have e : r.length + [x].length - 1 - i = (r.length - 1 - i) + 1 := by simp; omega
      unfold byteI
      rw [e, div256 _ _ _ hx]
    · simp only [List.map_cons, List.map_nil, List.length_singleton]
      have e : r.length + 1 - 1 - r.length = 0 := by omega
      rw [e]
      unfold byteI
      simp
      omega
theorem look_num (l : List Int) (t n : Nat) (v : Int) (hb : ∀ x ∈ l, 0 ≤ x ∧ x < 256) (h : lookF l t = (v, n, 0)) :
    numB v = (l.drop t).take n ∧ 0 ≤ v ∧ v ≤ 18446744073709551615 ∧ 1 ≤ n ∧ n ≤ 9 ∧ t + n ≤ l.length := by
  unfold lookF at h
  by_cases h1 : l.length ≤ t
  · rw [if_pos h1] at h; simp at h
  rw [if_neg h1] at h
  by_cases h2 : l.length - t ≤ lo (l.getD t 0)
  · rw [if_pos h2] at h; simp at h
  rw [if_neg h2] at h
  have ht : t < l.length := by omega
  have hbm : l.getD t 0 ∈ l := by rw [List.getD_eq_getElem?_getD, List.getElem?_eq_getElem ht]; simp
  obtain ⟨b0, b1⟩ := hb _ hbm
  have hbs : ∀ x ∈ (l.drop (t + 1)).take (lo (l.getD t 0)), 0 ≤ x ∧ x < 256 := fun x hx => hb x (List.mem_of_mem_drop (List.mem_of_mem_take hx))
  have hbl : ((l.drop (t + 1)).take (lo (l.getD t 0))).length = lo (l.getD t 0) := by rw [List.length_take, List.length_drop]; omega
  have ll := lo_le (l.getD t 0)
  have hX := bigV_u64 (l.getD t 0) (lo (l.getD t 0)) _ ll (by omega) hbs
  have hoth := oth_big (l.getD t 0) (lo (l.getD t 0)) _ ll hbl hbs
  have htop := bigV_top (topV (l.getD t 0) (lo (l.getD t 0))) _ hbs
  have hbyte := bigV_byte (topV (l.getD t 0) (lo (l.getD t 0))) _ hbs
  rw [hbl] at htop hbyte
  by_cases h3 : oth (bigV (topV (l.getD t 0) (lo (l.getD t 0))) ((l.drop (t + 1)).take (lo (l.getD t 0)))) < lo (l.getD t 0)
  · rw [if_pos h3] at h; simp at h
  rw [if_neg h3] at h
  simp only [Prod.mk.injEq] at h
  obtain ⟨hv, hn, _⟩ := h
  rw [hv] at htop hbyte hX h3 hoth
  have ho : oth v = lo (l.getD t 0) := by omega
  refine ⟨?_, hX.1, hX.2, by omega, by omega, by omega⟩
  unfold numB restB firstB
  rw [ho, htop, hbyte, ← lo_first _ b0 b1, ← hn]
  have hd : l.drop t = l.getD t 0 :: l.drop (t + 1) := by
    rw [List.getD_eq_getElem?_getD, List.getElem?_eq_getElem ht]; simp
  rw [hd, Nat.add_comm 1, List.take_succ_cons]
end Go.Proofs.YteflepcmblacaaaGreatDoor
namespace Go.Proofs.YteflepcmblacaaaGreatDoor
open Go.RowKit
theorem look_fault (l : List Int) (t n : Nat) (v e : Int) (h : lookF l t = (v, n, e)) (he : e ≠ 0) : v = 0 ∧ n = 0 := by
  unfold lookF at h
  split at h
  · simp only [Prod.mk.injEq] at h; omega
  · split at h
    · simp only [Prod.mk.injEq] at h; omega
    · split at h
      · simp only [Prod.mk.injEq] at h; omega
      · simp only [Prod.mk.injEq] at h; omega
end Go.Proofs.YteflepcmblacaaaGreatDoor

-- P10
namespace Go.Proofs.YteflepcmblacaaaGreatDoor
open Go.RowKit
attribute [local go_sem ↓] Go.wp_at_zero Go.wp_at_succ

theorem quietSame {P : Program} {f : FuncId} {args : Array Value} {w : World} {n : Nat} {v : Value}
    (h : Calls P f args (w.drewN n) fun e w' => e = .returned v ∧ w.drewN n = w') : Calls P f args (w.drewN n) fun e w'' => e = .returned v ∧ ∃ m, w'' = w.drewN m :=
  Calls.quiet_of_same (h.mono fun _ _ ⟨a, b⟩ => ⟨a, b.symm⟩)
theorem quietDrawn {P : Program} {f : FuncId} {args : Array Value} {w : World} {n : Nat} {v : Value}
    (h : Calls P f args (w.drewN n) fun e w' => Drawn (w.drewN n) w' (e = .returned v)) : Calls P f args (w.drewN n) fun e w'' => e = .returned v ∧ ∃ m, w'' = w.drewN m :=
  Calls.quiet_of (h.mono fun _ _ ⟨a, b⟩ => ⟨a, b⟩)

set_option maxHeartbeats 400000 in
set_option maxRecDepth 100000 in
theorem done_err (B p : Nat) (v : Value) (l : List Int) (t : Nat) (e : Int) (w : World) (HR : RdAt 96 5 w B p v l t e) (he : (e == 0) = false) :
    Calls Tryz.prog 38 #[.pointer (some ⟨p, 0, none⟩)] w fun e' w' => Drawn w w' (e' = .returned (.int .i64 e)) := by
  have hc2 := HR.c2
  go_enter Tryz.func38, Tryz.ntmps38
  go_wp2
  go_ret
  exact ⟨rfl, 0, rfl⟩

set_option maxHeartbeats 400000 in
set_option maxRecDepth 100000 in
theorem done_ok (B p : Nat) (v : Value) (l : List Int) (t : Nat) (w : World) (HR : RdAt 96 5 w B p v l t 0) (hl : l.length ≤ 100000000000) :
    Calls Tryz.prog 38 #[.pointer (some ⟨p, 0, none⟩)] w fun e' w' => Drawn w w' (e' = .returned (.int .i64 (if t = l.length then 0 else 3))) := by
  have hc2 := HR.c2
  have ht := HR.taken
  by_cases h : t = l.length
  · have q : ¬ (0 : Int) < (l.length : Int) - (t : Int) := by omega
    clear h
    go_enter Tryz.func38, Tryz.ntmps38
    go_wp2_with (go_at_call 65; refine (left_any B p _ l t 0 _ HR hl).mono ?_; rintro e w' ⟨rfl, q, rfl⟩)
    go_ret
    exact ⟨rfl, _, rfl⟩
  · have q : (0 : Int) < (l.length : Int) - (t : Int) := by omega
    go_enter Tryz.func38, Tryz.ntmps38
    go_wp2_with (go_at_call 65; refine (left_any B p _ l t 0 _ HR hl).mono ?_; rintro e w' ⟨rfl, q, rfl⟩)
    go_ret
    exact ⟨rfl, _, rfl⟩

set_option maxHeartbeats 1000000 in
set_option maxRecDepth 100000 in
theorem look_err (B p : Nat) (v : Value) (l : List Int) (t : Nat) (e : Int) (w : World) (HR : RdAt 96 5 w B p v l t e) (he : (e != 0) = true) :
    Calls Tryz.prog 80 #[.pointer (some ⟨p, 0, none⟩)] w (Looked 96 5 w B p v l t (0, 0, e)) := by
  have hc2 := HR.c2
  have hf2 := HR.free 2
  go_enter Tryz.func80, Tryz.ntmps80
  go_wp2
  refine wp_scope_jumps 0 (AtLabel 96 5 w B p v l t (0, 0, e)) (fun _ _ => 0) rfl ?_ ?_
  · go_wp2
    go_quiet (fail)
    go_wp2
    go_step3
    exact ⟨rfl, 0, 0, e, e, ⟨_, _, _, _, _, _, _, _, _, _, _, _, _, _, _, _, _, _, _, _, _, _, _, _, _, _, _, _, _, _, _, _, _, _, _, _, _, _, _, _, _, _, _, _, _, _, _, _, _, _, _, _, _, _, _, _, _, _, _, _, _, _, _, _, _, _, _, _, _, _, rfl⟩, HR.drewN _, (Kept.refl _ _).drewN _, fun h => absurd h (by simpa using he), fun _ => rfl⟩
  · intro a wl hJ
    obtain ⟨x, k, e1, e0, ⟨_, _, _, _, _, _, _, _, _, _, _, _, _, _, _, _, _, _, _, _, _, _, _, _, _, _, _, _, _, _, _, _, _, _, _, _, _, _, _, _, _, _, _, _, _, _, _, _, _, _, _, _, _, _, _, _, _, _, _, _, _, _, _, _, _, _, _, _, _, _, rfl⟩, HRl, hkl, hz, hnz⟩ := hJ
    have hc2 := HRl.c2
    have hf2 := HRl.free 2
    have he1 : e1 ≠ 0 := fun h => by have := (hz h).2.1; simp at this; simp [this.2.2] at he
    have HH := Lib.hid (hnz he1)
    have hb : (e1 != 0) = true := by simp [he1]
    clear hz hnz he1
    go_wp2
    simp only [Exit.jump]
    go_ret2
    exact ⟨rfl, by rw [HH.out]; exact HRl.setErr, hkl.setCell (fun _ => rfl) _⟩

set_option maxHeartbeats 400000 in
set_option maxRecDepth 100000 in
theorem rnum_err (B p : Nat) (v : Value) (l : List Int) (t : Nat) (e : Int) (w : World) (HR : RdAt 96 5 w B p v l t e) (hl : l.length ≤ 100000000000) (he : (e != 0) = true) :
    Calls Tryz.prog 63 #[.pointer (some ⟨p, 0, none⟩)] w (Read 96 5 w B p v l t (0, 0, e)) := by
  have ht := HR.taken
  go_enter Tryz.func63, Tryz.ntmps63
  go_wp2_with fail
  refine (look_err B p v l t e w HR he).mono ?_
  rintro e1 w' ⟨rfl, HR1, hk⟩
  have hc1 := HR1.c1
  have hf1 := HR1.free 1
  have fin := Lib.hid (HR1.setAt ht)
  go_wp2
  go_ret
  exact ⟨rfl, fin.out, hk.setCell (fun _ => rfl) _⟩

/-- A slice of bytes that came in. -/
theorem IsRow.bytes {w : World} {a : Option Addr} {len cap : Nat} {zs : List Int} (h : IsRow .u8 w a len cap zs) :
    ∃ l : List Int, l.length = len ∧ SliceAt w (.slice a len cap) a len cap (u8s l) ∧ len ≤ cap ∧ ∀ x ∈ l, 0 ≤ x ∧ x < 256 := by
  rcases h with ⟨rfl, rfl, rfl, rfl⟩ | ⟨x, rfl, hl, _, hz, hc, hw⟩
  · exact ⟨[], rfl, ⟨rfl, rfl, (fun _ => rfl), (fun a ha => by cases ha)⟩, Nat.le_refl _, (fun x hx => by cases hx)⟩
  · refine ⟨zs.take len, by rw [List.length_take]; omega, ⟨rfl, by simp [u8s]; omega, (fun h => by cases h), fun a ha j u hu => ?_⟩, hl, fun y hy => ?_⟩
    · cases ha
      have hj : j < len := by
        have := (List.getElem?_eq_some_iff.1 hu).1
        simp [u8s] at this; omega
      rw [hc j (by omega)]
      have e : (u8s (zs.take len))[j]? = some (.int .u8 (zs.getD j 0)) := by simp [u8s, hj, List.getD_eq_getElem?_getD, show j < zs.length by omega]
      rw [e] at hu
      exact hu
    · have := bd_u8 (hw y (List.mem_of_mem_take hy))
      omega

/-- The first bytes of a slice, as a text. -/
theorem SliceAt.str {w : World} {g off n c m c' : Nat} {l : List Int} (h : SliceAt w (.slice (some ⟨g, off, Option.none⟩) n c) (some ⟨g, off, Option.none⟩) n c (u8s l)) (hm : m ≤ n) {P : Program} (src e dst : TypeId) (hs : P.underlying src = some (.slice e)) (he : P.underlying e = some (.int .u8)) (hd : P.underlying dst = some .string) :
    (convert src dst (.slice (some ⟨g, off, Option.none⟩) m c')).run P w = .ok (.string (strOfNums (l.take m))) w := by
  have hl : l.length = n := by have := h.len; simpa [u8s] using this
  refine run_convert_bytes_arg w src e hs he g off m c' (l.take m) (by rw [List.length_take]; omega) (fun i hi => ?_) dst hd
  have := h.cells _ rfl i (.int .u8 (l.getD i 0)) (by simp [u8s, List.getD_eq_getElem?_getD, List.getElem?_eq_getElem (show i < l.length by omega)])
  rw [Go.WideShapes.add_plain] at this
  rw [this]
  simp [List.getD_eq_getElem?_getD, hi]
end Go.Proofs.YteflepcmblacaaaGreatDoor

