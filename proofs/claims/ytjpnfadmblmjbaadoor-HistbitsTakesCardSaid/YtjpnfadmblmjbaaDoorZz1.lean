/- Texts put together: L0, L3, G1, H0, H1, H2. -/
import Derived.WalkKit
import Derived.WalkLawsBesides
import Derived.WalkSpells
import Derived.Deep.AppendSrc
import Derived.Deep.AppendLies
import Derived.ProofKit
import Derived.OpenShut
import Derived.WideShapes
import Derived.Lib.Hide
import Derived.Laws.Rows
import Derived.Deep.RegionHeld3
import Derived.Deep.RegionWith
import Derived.Deep.DrawnRows
import Derived.Deep.QuietTactic
import Derived.BigQuiet
import Derived.Outline
import Derived.Deep.DeepCutAuto
import Derived.Deep.LoopGhost
import Derived.Deep.RegionLaw
import Derived.Deep.CutBlock
import Derived.StillTailTactics
import Derived.Test.YtjpnfadmblmjbaaDoorRows
import Derived.Laws.Externs
/- Words and laws of memory that every text of this seat uses, which import nothing of a translation: what a call may turn (Kept); an append onto a slice that the call owns, whatever is appended. -/
namespace Go.Proofs.YtjpnfadmblmjbaaDoor
open Go.RowKit

theorem ret_int {k : IntKind} {a b : Int} (h : a = b) : Ending.returned (.int k a) = .returned (.int k b) := by rw [h]
theorem ret_bool {a b : Bool} (h : a = b) : Ending.returned (.bool a) = .returned (.bool b) := by rw [h]
theorem ret_str {a b : ByteArray} (h : a = b) : Ending.returned (.string a) = .returned (.string b) := by rw [h]

/-- The world w' is the world w with new blocks, and with writes to blocks of S alone. -/
structure Kept (S : Nat → Prop) (w w' : World) : Prop where
  os : w'.os = w.os
  tape : w'.tape = w.tape
  output : w'.output = w.output
  size : w.heap.size ≤ w'.heap.size
  block : ∀ k, k < w.heap.size → ¬ S k → w'.heap[k]? = w.heap[k]?

namespace Kept
variable {S S' : Nat → Prop} {a b c w w' : World}
theorem refl (S : Nat → Prop) (w : World) : Kept S w w := ⟨rfl, rfl, rfl, Nat.le_refl _, fun _ _ _ => rfl⟩
theorem trans (h : Kept S a b) (k : Kept S b c) : Kept S a c :=
  ⟨k.os.trans h.os, k.tape.trans h.tape, k.output.trans h.output, Nat.le_trans h.size k.size, fun i hi hn => (k.block i (Nat.lt_of_lt_of_le hi h.size) hn).trans (h.block i hi hn)⟩
theorem mono (h : Kept S a b) (hs : ∀ k, k < a.heap.size → S k → S' k) : Kept S' a b := ⟨h.os, h.tape, h.output, h.size, fun k hk hn => h.block k hk fun x => hn (hs k hk x)⟩
/-- One step behind another: what the second writes is in S', or it is a block that wasn't there. -/
theorem step (h : Kept S a b) (k : Kept S' b c) (hs : ∀ k, k < a.heap.size → S' k → S k) : Kept S a c :=
  ⟨k.os.trans h.os, k.tape.trans h.tape, k.output.trans h.output, Nat.le_trans h.size k.size, fun i hi hn => (k.block i (Nat.lt_of_lt_of_le hi h.size) fun x => hn (hs i hi x)).trans (h.block i hi hn)⟩
theorem alloc (h : Kept S a b) (o : Obj) : Kept S a (b.alloc o) := h.trans ⟨rfl, rfl, rfl, by simp, fun k hk _ => Below.heap_alloc _ _ _ hk⟩
theorem drew (h : Kept S a b) : Kept S a b.drew := ⟨h.os, h.tape, h.output, h.size, h.block⟩
theorem drewN (h : Kept S a b) (n : Nat) : Kept S a (b.drewN n) := ⟨h.os, h.tape, h.output, h.size, h.block⟩
theorem setCell (h : Kept S a b) {p : Addr} (hp : p.block < a.heap.size → S p.block) (u : Value) : Kept S a (b.setCell p u) :=
  ⟨h.os, h.tape, h.output, by simpa [World.setCell] using h.size, fun k hk hn => by
    rw [Below.heap_setCell _ _ _ _ (by intro e; subst e; exact hn (hp hk))]; exact h.block k hk hn⟩
theorem grown {row : Option Nat} (h : Kept S a b) (hg : b.grownBy c row) (hr : ∀ k, row = some k → k < a.heap.size → S k) : Kept S a c :=
  h.step (S' := fun k => some k = row) ⟨hg.os, hg.tape, hg.output, hg.size, fun k hk hn => hg.block k hk hn⟩ (fun k hk hS => hr k hS.symm hk)
theorem ofBelow {B : Nat} (h : Below B a b) : Kept (fun k => B ≤ k) a b := ⟨h.os, h.tape, h.output, h.size, fun k _ hn => h.block k (by omega)⟩
theorem below {B : Nat} (h : Kept S a b) (hB : B ≤ a.heap.size) (hs : ∀ k, S k → B ≤ k) : Below B a b :=
  ⟨h.os, h.tape, h.output, h.size, fun k hk => h.block k (by omega) fun x => by have := hs k x; omega⟩
theorem same (h : Kept S a b) {p : Nat} {o : Obj} (hp : a.heap[p]? = some o) (hn : ¬ S p) : b.heap[p]? = some o := by
  rw [h.block p (Array.getElem?_eq_some_iff.1 hp).1 hn]; exact hp
theorem cell (h : Kept S a b) {p : Addr} {v : Value} (hp : a.cell? p = some v) (hn : ¬ S p.block) : b.cell? p = some v :=
  (World.cell?_of_block (h.block p.block (World.block_lt_of_cell? a p hp) hn)).trans hp
theorem owns (h : Kept S a b) {base : Nat} {e : TypeId} {size : Nat} {v : Value} {n : Nat} {xs : List Value} (ho : a.ownsRow base e size v n xs) (hn : ∀ k, v.ownBlock = some k → ¬ S k) : b.ownsRow base e size v n xs := by
  refine ⟨ho.1, ?_⟩
  rcases ho.2 with h0 | ⟨g, cap, cur, rfl, hb, hgg, rest⟩
  · exact .inl h0
  · exact .inr ⟨g, cap, cur, rfl, hb, h.same hgg (hn g rfl), rest⟩
end Kept

/-- A slice that owns its row lies in a block that is there. -/
theorem ownsRow_lt {w : World} {base : Nat} {e : TypeId} {size : Nat} {v : Value} {n : Nat} {xs : List Value} (ho : w.ownsRow base e size v n xs) {k : Nat} (hk : v.ownBlock = some k) : k < w.heap.size ∧ base ≤ k := by
  rcases ho.2 with ⟨rfl, _⟩ | ⟨g, cap, cur, rfl, hb, hgg, _⟩
  · cases hk
  · simp [Value.ownBlock] at hk; subst hk
    exact ⟨(Array.getElem?_eq_some_iff.1 hgg).1, hb⟩

/-- Its block holds cells of the element's type. -/
theorem ownsRow_block {w : World} {base : Nat} {e : TypeId} {size : Nat} {v : Value} {n : Nat} {xs : List Value} (ho : w.ownsRow base e size v n xs) {k : Nat} (hk : v.ownBlock = some k) : ∃ cur, w.heap[k]? = some (.cells cur e (0, 0)) := by
  rcases ho.2 with ⟨rfl, _⟩ | ⟨g, cap, cur, rfl, hb, hgg, _⟩
  · cases hk
  · simp [Value.ownBlock] at hk; subst hk
    exact ⟨cur, hgg⟩

/-- What a slice looks like that owns something, or nothing. -/
theorem ownsRow_slice {w : World} {base : Nat} {e : TypeId} {size : Nat} {v : Value} {n : Nat} {xs : List Value} (ho : w.ownsRow base e size v n xs) : ∃ a cap, v = .slice a n cap := by
  rcases ho.2 with ⟨rfl, rfl⟩ | ⟨g, cap, cur, rfl, _⟩
  · exact ⟨none, 0, rfl⟩
  · exact ⟨_, cap, rfl⟩

section
variable {P : Program} (w : World)

/-- One element that was laid in a block of its own to be appended. -/
theorem src_one {tx e : TypeId} (hk : P.underlying tx = some (.slice e)) (u : Value) (hu : u.oneCell' = true) :
    Src P 1 tx (.slice (some ⟨w.heap.size, 0, none⟩) 1 1) 1 [u] (w.alloc (.cells #[u] e)) :=
  Src.ofSlice _ hk _ 1 1 [u] rfl (World.news_of_block (cs := #[u]) (t := e) (fr := (0, 0)) (heap_alloc_new w _)) (by simpa using hu)
theorem Src.drawn {size : Nat} {tx : TypeId} {x : Value} {n : Nat} {news : List Value} (h : Src P size tx x n news w) (hx : ∀ a k c, x = .slice (some a) k c → ∀ j u, news[j]? = some u → w.cell? (a.add j) = some u) : Src P size tx x n news w.drew := by
  refine ⟨h.kind, h.len, h.cellsD, ?_, h.newsLen, h.one⟩
  have hn : (Builtin.lenOf x).run P w = .ok n w := h.len w
  have h2 := h.cellsD
  cases x with
  | slice a k c =>
    have hk : k = n := by simpa [Builtin.lenOf] using hn
    subst hk
    cases a with
    | none => simpa [Builtin.firstCells] using h2
    | some a => exact run_firstCells_some w.drew.drew size k a k c news h.newsLen (by simpa using hx a k c rfl)
  | string s => simpa [Builtin.firstCells] using h2
  | _ => simp [Builtin.lenOf] at hn
theorem src_one_drew {tx e : TypeId} (hk : P.underlying tx = some (.slice e)) (u : Value) (hu : u.oneCell' = true) :
    Src P 1 tx (.slice (some ⟨w.heap.size, 0, none⟩) 1 1) 1 [u] (w.alloc (.cells #[u] e)).drew :=
  Src.ofSlice _ hk _ 1 1 [u] rfl (World.news_of_block (cs := #[u]) (t := e) (fr := (0, 0)) (heap_alloc_new w _)) (by simpa using hu)

/-- A slice that owns its row, as what is appended. -/
theorem ownsRow.src {w : World} {base : Nat} {e : TypeId} {v : Value} {n : Nat} {xs : List Value} (ho : w.ownsRow base e 1 v n xs) {t e' : TypeId} (hk : P.underlying t = some (.slice e')) (h1 : ∀ u ∈ xs, u.oneCell' = true) :
    Src P 1 t v n xs w := by
  obtain ⟨a, cap, rfl⟩ := ownsRow_slice ho
  cases a with
  | none =>
    rcases ho.2 with ⟨_, rfl⟩ | ⟨g, cap, cur, e, _⟩
    · have : xs = [] := List.eq_nil_of_length_eq_zero (by simpa using ho.1)
      subst this
      exact Src.ofNil _ hk _
    · cases e
  | some a =>
    rcases ho.2 with ⟨e, _⟩ | ⟨g, cap', cur, e, _⟩
    · cases e
    · injection e with e1 e2 e3
      injection e1 with e1
      subst e1
      exact Src.ofSlice _ hk _ n cap xs ho.1 (ho.cells rfl) h1

theorem run_append_room_any (t tx ty e : TypeId) (i : TypeInfo) (ht : P.underlying t = some (.slice e)) (hi : P.info? e = some i)
    (g sLen sCap : Nat) (cur : Array Value) (hg : w.heap[g]? = some (.cells cur e (0, 0)))
    (x : Value) (m : Nat) (news : List Value) (hs : Src P i.size tx x m news w)
    (hroom : sLen + m ≤ sCap) (hfit : sLen * i.size + news.length ≤ cur.size) :
    (Builtin.append_ #[t, tx] ty #[.slice (some ⟨g, 0, none⟩) sLen sCap, x]).run P w =
      .ok (.slice (some ⟨g, 0, none⟩) (sLen + m) sCap) (w.setRow g (cur.toList.take (sLen * i.size) ++ news ++ cur.toList.drop (sLen * i.size + news.length)).toArray) := by
  have hst := run_storeCells_at P g (sLen * i.size) e news 0 cur w hg (by simpa using hfit) hs.one
  simp only [Nat.add_zero] at hst
  rcases hs.kind with ⟨e', hk⟩ | hk <;>
    simp [Builtin.append_, run_underlying ht, run_underlying hk, sizeOf, typeInfo, hi, hs.len, hroom, hs.cells, Addr.add_lit, hst]

theorem run_append_own_src (base : Nat) (t tx ty e : TypeId) (i : TypeInfo) (z : Value) (size bytes : Nat) (ht : P.underlying t = some (.slice e)) (hi : P.info? e = some i) (hz : i.zero = some z)
    (hsize : i.size = size) (hby : i.bytes = bytes) (hzs : z.cells.size = size)
    (v : Value) (n : Nat) (xs : List Value) (hown : w.ownsRow base e size v n xs)
    (x : Value) (m : Nat) (news : List Value) (hs : Src P size tx x m news w)
    (h63 : n + m ≤ maxLen) (hbytes : (n + m) * bytes ≤ 140737488355328) (hbase : base ≤ w.heap.size) :
    ∃ v' w', (Builtin.append_ #[t, tx] ty #[v, x]).run P w = .ok v' w' ∧ w'.ownsRow base e size v' (n + m) (xs ++ news) ∧ w.grownBy w' v.ownBlock ∧
      (v' = .slice none 0 0 ↔ v = .slice none 0 0 ∧ m = 0) ∧ (v'.ownBlock = v.ownBlock ∨ v'.ownBlock = some w.heap.size) := by
  subst hsize
  subst hby
  have hsmall : n + m ≤ 9223372036854775807 := by simp only [maxLen] at h63; omega
  have hl := hs.newsLen
  have hlen : (xs ++ news).length = (n + m) * i.size := by rw [List.length_append, hown.1, hl, Nat.add_mul]
  have grown : ∀ (old : Nat), old < n + m → ∀ (row : Option Nat),
      (w.drew.alloc (.cells ((xs ++ news).toArray ++ Builtin.zeroCells z.cells (grownCap w (n + m) old e - (n + m))) e)).ownsRow base e i.size
        (.slice (some ⟨w.heap.size, 0, none⟩) (n + m) (grownCap w (n + m) old e)) (n + m) (xs ++ news) ∧
      w.grownBy (w.drew.alloc (.cells ((xs ++ news).toArray ++ Builtin.zeroCells z.cells (grownCap w (n + m) old e - (n + m))) e)) row := by
    intro old ho row
    have hge := grownCap_ge w (n + m) old e
    have hcm : grownCap w (n + m) old e ≤ maxLen := grownCap_le_maxLen w (n + m) old e h63
    refine ⟨⟨hlen, .inr ⟨w.heap.size, _, _, rfl, hbase, heap_alloc_new w.drew _, hge, hcm, ?_, ?_⟩⟩, ⟨rfl, rfl, rfl, by simp, fun k hk _ => Below.heap_alloc w.drew _ k hk⟩⟩
    · simp only [Array.size_append, List.size_toArray, size_zeroCells, hzs, hlen, ← Nat.add_mul]
      congr 1
      omega
    · rw [← hlen, Array.toList_append]
      exact List.take_left
  rcases hown.2 with ⟨rfl, rfl⟩ | ⟨g, cap, cur, rfl, hbg, hg, hnc, hcm, hcs, htake⟩
  · have hx : xs = [] := List.eq_nil_of_length_eq_zero (by simpa using hown.1)
    subst hx
    by_cases hm : m = 0
    · subst hm
      have hn : news = [] := List.eq_nil_of_length_eq_zero (by simpa using hl)
      subst hn
      refine ⟨.slice none 0 0, w, ?_, World.ownsRow_nil w base e i.size, ⟨rfl, rfl, rfl, Nat.le_refl _, fun _ _ _ => rfl⟩, by simp, Or.inl rfl⟩
      rcases hs.kind with ⟨e', hk⟩ | hk <;>
        simp [Builtin.append_, run_underlying ht, run_underlying hk, sizeOf, typeInfo, hi, hs.len, hs.cells]
    · have hr := run_append_grow_src (P := P) w t tx ty e i z ht hi hz none 0 0 [] (by simp [Builtin.firstCells]) x m news hs (by omega) (by omega) (growslice_fits (by omega) hbytes)
      have hgr := grown 0 (by omega) (Value.ownBlock (.slice none 0 0))
      exact ⟨_, _, hr, hgr.1, hgr.2, by simp [hm], Or.inr rfl⟩
  · by_cases hroom : n + m ≤ cap
    · have hfit : n * i.size + news.length ≤ cur.size := by rw [hl, hcs, ← Nat.add_mul]; exact Nat.mul_le_mul_right _ hroom
      have hr := run_append_room_any (P := P) w t tx ty e i ht hi g n cap cur hg x m news hs hroom hfit
      refine ⟨_, _, hr, ⟨hlen, .inr ⟨g, cap, _, rfl, hbg, setRow_heap w g cur _ e _ hg, hroom, hcm, ?_, ?_⟩⟩, ⟨rfl, rfl, rfl, by simp, fun k _ hk => setRow_other w g k _ (fun e => hk (by simp [Value.ownBlock, e]))⟩, by simp, Or.inl rfl⟩
      · simp only [List.size_toArray, List.length_append, List.length_take, List.length_drop, Array.length_toList]
        omega
      · rw [htake, ← hlen]
        exact List.take_left
    · have holds : ∀ j u, xs[j]? = some u → w.cell? ((⟨g, 0, none⟩ : Addr).add j) = some u := hown.cells (g := g) rfl
      have hold : (Builtin.firstCells i.size n (.slice (some ⟨g, 0, none⟩) n cap)).run P w.drew = .ok xs.toArray w.drew :=
        run_firstCells_some w.drew i.size n ⟨g, 0, none⟩ n cap xs hown.1 (by simpa using holds)
      have hr := run_append_grow_src (P := P) w t tx ty e i z ht hi hz (some ⟨g, 0, none⟩) n cap xs hold x m news hs (by omega) (by omega) (growslice_fits (by omega) hbytes)
      have hgr := grown cap (by omega) (Value.ownBlock (.slice (some ⟨g, 0, none⟩) n cap))
      exact ⟨_, _, hr, hgr.1, hgr.2, by simp, Or.inr rfl⟩

/-- At the operation. -/
theorem wp_append_src {o : Oper} {a : Act} {K : Act → World → Prop} {Q : Exit → Act → World → Prop} (s x : Operand) (t tx : TypeId)
    (ho : o.op = .call { callee := .builtin .append, args := #[s, x], argTypes := #[t, tx] })
    (base : Nat) (e : TypeId) (i : TypeInfo) (z : Value) (size bytes : Nat) (ht : P.underlying t = some (.slice e)) (hi : P.info? e = some i) (hz : i.zero = some z)
    (hsize : i.size = size) (hby : i.bytes = bytes) (hzs : z.cells.size = size)
    (v : Value) (n : Nat) (xs : List Value) (hv : a.eval s = v) (hown : w.ownsRow base e size v n xs)
    (y : Value) (m : Nat) (news : List Value) (hy : a.eval x = y) (hs : Src P size tx y m news w)
    (h63 : n + m ≤ maxLen) (hbytes : (n + m) * bytes ≤ 140737488355328) (hbase : base ≤ w.heap.size)
    (h : ∀ v' w', w'.ownsRow base e size v' (n + m) (xs ++ news) → w.grownBy w' v.ownBlock → (v' = .slice none 0 0 ↔ v = .slice none 0 0 ∧ m = 0) → (v'.ownBlock = v.ownBlock ∨ v'.ownBlock = some w.heap.size) → K (a.put o.dst v') w') : o.wp P a w K Q := by
  obtain ⟨v', w', hr, h2, h3, h4, h5⟩ := run_append_own_src (P := P) w base t tx o.type e i z size bytes ht hi hz hsize hby hzs v n xs hown y m news hs h63 hbytes hbase
  unfold Oper.wp execOp
  simp only [ho, resolve, invoke, builtin, Sem.run_bind, Sem.run_pure, Result.andThen_ok, List.map_toArray, List.map_cons, List.map_nil, hv, hy, hr]
  exact h v' w' h2 h3 h4 h5

/-- At a plain region's list. -/
theorem wpList_append_src {ops : Array Oper} {rest : List Oper} {o : Oper} {a : Act} {Q : Exit → Act → World → Prop} (hgd : o.guard = none) (s x : Operand) (t tx : TypeId)
    (ho : o.op = .call { callee := .builtin .append, args := #[s, x], argTypes := #[t, tx] })
    (base : Nat) (e : TypeId) (i : TypeInfo) (z : Value) (size bytes : Nat) (ht : P.underlying t = some (.slice e)) (hi : P.info? e = some i) (hz : i.zero = some z)
    (hsize : i.size = size) (hby : i.bytes = bytes) (hzs : z.cells.size = size)
    (v : Value) (n : Nat) (xs : List Value) (hv : a.eval s = v) (hown : w.ownsRow base e size v n xs)
    (y : Value) (m : Nat) (news : List Value) (hy : a.eval x = y) (hs : Src P size tx y m news w)
    (h63 : n + m ≤ maxLen) (hbytes : (n + m) * bytes ≤ 140737488355328) (hbase : base ≤ w.heap.size)
    (h : ∀ v' w', w'.ownsRow base e size v' (n + m) (xs ++ news) → w.grownBy w' v.ownBlock → (v' = .slice none 0 0 ↔ v = .slice none 0 0 ∧ m = 0) → (v'.ownBlock = v.ownBlock ∨ v'.ownBlock = some w.heap.size) → wpList P ops Q rest (a.put o.dst v') w') : wpList P ops Q (o :: rest) a w :=
  wpList_plain hgd fun _ hK => wp_append_src w s x t tx ho base e i z size bytes ht hi hz hsize hby hzs v n xs hv hown y m news hy hs h63 hbytes hbase fun v' w' h2 h3 h4 h5 => hK _ _ (h v' w' h2 h3 h4 h5)

/-- At a step of a region that draws its order. -/
theorem step_append_src {ops : Array Oper} {o : Oper} {a : Act} {K : Act → World → Prop} {Q : Exit → Act → World → Prop} {E : Prop} (hgd : o.guard = none) (s x : Operand) (t tx : TypeId)
    (ho : o.op = .call { callee := .builtin .append, args := #[s, x], argTypes := #[t, tx] })
    (base : Nat) (e : TypeId) (i : TypeInfo) (z : Value) (size bytes : Nat) (ht : P.underlying t = some (.slice e)) (hi : P.info? e = some i) (hz : i.zero = some z)
    (hsize : i.size = size) (hby : i.bytes = bytes) (hzs : z.cells.size = size)
    (v : Value) (n : Nat) (xs : List Value) (hv : a.eval s = v) (hown : w.ownsRow base e size v n xs)
    (y : Value) (m : Nat) (news : List Value) (hy : a.eval x = y) (hs : Src P size tx y m news w)
    (h63 : n + m ≤ maxLen) (hbytes : (n + m) * bytes ≤ 140737488355328) (hbase : base ≤ w.heap.size)
    (h : ∀ v' w', w'.ownsRow base e size v' (n + m) (xs ++ news) → w.grownBy w' v.ownBlock → (v' = .slice none 0 0 ↔ v = .slice none 0 0 ∧ m = 0) → (v'.ownBlock = v.ownBlock ∨ v'.ownBlock = some w.heap.size) → K (a.put o.dst v') w') :
    if Region.wanted o (yielded ops a.tmps) = true then Oper.wp P o a w K Q else E := by
  have hw : Region.wanted o (yielded ops a.tmps) = true := by simp [Region.wanted, hgd]
  rw [if_pos hw]
  exact wp_append_src w s x t tx ho base e i z size bytes ht hi hz hsize hby hzs v n xs hv hown y m news hy hs h63 hbytes hbase h
end
end Go.Proofs.YtjpnfadmblmjbaaDoor
/- What a law's frame needs: bounds of integers; a slice of integers that came in. -/
namespace Go.Proofs.YtjpnfadmblmjbaaDoor
open Go.ChangeShapes Go.WideShapes Go.ChangeAt Go.RowKit
theorem bd_i64 {a : Int} (h : (Lit.int .i64 a).wf = true) : -9223372036854775808 ≤ a ∧ a ≤ 9223372036854775807 := by
  simpa [Lit.wf, IntKind.min, IntKind.max, IntKind.signed, IntKind.bits] using h
theorem bd_u64 {a : Int} (h : (Lit.int .u64 a).wf = true) : 0 ≤ a ∧ a ≤ 18446744073709551615 := by
  simpa [Lit.wf, IntKind.min, IntKind.max, IntKind.signed, IntKind.bits] using h
theorem bd_u32 {a : Int} (h : (Lit.int .u32 a).wf = true) : 0 ≤ a ∧ a ≤ 4294967295 := by
  simpa [Lit.wf, IntKind.min, IntKind.max, IntKind.signed, IntKind.bits] using h
theorem bd_u8 {a : Int} (h : (Lit.int .u8 a).wf = true) : 0 ≤ a ∧ a ≤ 255 := by
  simpa [Lit.wf, IntKind.min, IntKind.max, IntKind.signed, IntKind.bits] using h

/-- A slice of integers that came in: nil; or it leads to a row of 'cap' cells, the numbers zs, of which the first 'len' are its elements. -/
def IsRow (k : IntKind) (w : World) (a : Option Addr) (len cap : Nat) (zs : List Int) : Prop :=
  (a = none ∧ len = 0 ∧ cap = 0 ∧ zs = []) ∨
  ∃ x, a = some x ∧ len ≤ cap ∧ cap ≤ maxLen ∧ zs.length = cap ∧ (∀ i, i < zs.length → w.cell? (x.add i) = some (.int k (zs.getD i 0))) ∧ ∀ n ∈ zs, (Lit.int k n).wf = true

theorem isRow_of {H : Type} {enc : TypeId × Value → H} {P : Program} {T E : TypeId} {k : IntKind} {W : World} {a : Option Addr} {len cap : Nat} {d : DataW H} {p : List MemPlace} {sp : Nat}
    (hT : P.underlying T = some (.slice E)) (hE : P.underlying E = some (.int k)) (hc : P.cellsOf E = 1) (h : DataW.Trod enc P W sp (fun _ => true) true T (.slice a len cap) d p) : ∃ zs, IsRow k W a len cap zs := by
  obtain ⟨fuel, hf⟩ := h
  rcases open_ints hT hE hc hf with ⟨hcs, _⟩ | ⟨x, l, c, zs, hcs, _, hl, hm, hz, _, hcell, hwz⟩
  · simp [Value.cells] at hcs
    obtain ⟨rfl, rfl, rfl⟩ := hcs
    exact ⟨[], .inl ⟨rfl, rfl, rfl, rfl⟩⟩
  · simp [Value.cells] at hcs
    obtain ⟨rfl, rfl, rfl⟩ := hcs
    exact ⟨zs, .inr ⟨_, rfl, hl, hm, by simpa using hz, hcell, hwz⟩⟩
end Go.Proofs.YtjpnfadmblmjbaaDoor
/- General words and laws of memory: a slice read as values; a row that was made behind a world; slices cut; slices of integers that came in. It imports nothing of a translation. -/
namespace Go.Proofs.YtjpnfadmblmjbaaDoor
open Go.RowKit

/-- The value v is a slice whose elements, of one cell each, read as xs. -/
structure SlAt (w : World) (v : Value) (xs : List Value) : Prop where
  val : ∃ ao c, v = .slice ao xs.length c ∧ (ao = none → xs = []) ∧ ∀ a, ao = some a → ∀ j u, xs[j]? = some u → w.cell? (a.add j) = some u

theorem addr_add0 (g j : Nat) : (⟨g, 0, none⟩ : Addr).add j = ⟨g, j, none⟩ := by unfold Addr.add; split <;> simp_all
theorem add_block (a : Addr) (j : Nat) : (a.add j).block = a.block := by unfold Addr.add; split <;> rfl

theorem SlAt.src {P : Program} {w : World} {v : Value} {xs : List Value} (h : SlAt w v xs) {t e : TypeId} (hk : P.underlying t = some (.slice e)) (h1 : ∀ u ∈ xs, u.oneCell' = true) : Src P 1 t v xs.length xs w := by
  obtain ⟨ao, c, rfl, hn, hc⟩ := h.val
  cases ao with
  | none =>
    obtain rfl := hn rfl
    exact Src.ofNil _ hk _
  | some a => exact Src.ofSlice _ hk _ xs.length c xs (by omega) (hc a rfl) h1
theorem SlAt.kept {S : Nat → Prop} {w w' : World} {v : Value} {xs : List Value} (h : SlAt w v xs) (hk : Kept S w w') (hn : ∀ k, v.ownBlock = some k → ¬ S k) : SlAt w' v xs := by
  obtain ⟨ao, c, rfl, hz, hc⟩ := h.val
  refine ⟨ao, c, rfl, hz, fun a ha j u hu => ?_⟩
  refine hk.cell (hc a ha j u hu) ?_
  subst ha
  rw [add_block]
  exact hn _ rfl
theorem SlAt.ofOwn {w : World} {base : Nat} {e : TypeId} {v : Value} {n : Nat} {xs : List Value} (ho : w.ownsRow base e 1 v n xs) : SlAt w v xs := by
  obtain ⟨a, cap, rfl⟩ := ownsRow_slice ho
  have hl : xs.length = n := by simpa using ho.1
  subst hl
  refine ⟨a, cap, rfl, ?_, ?_⟩
  · rintro rfl
    rcases ho.2 with ⟨_, h⟩ | ⟨g, cap, cur, e, _⟩
    · exact List.eq_nil_of_length_eq_zero h
    · cases e
  · rintro a rfl j u hu
    rcases ho.2 with ⟨e, _⟩ | ⟨g, cap', cur, e, _⟩
    · cases e
    · injection e with e1 e2 e3
      injection e1 with e1
      subst e1
      exact ho.cells rfl j u hu

theorem SlAt.addr {w : World} {v : Value} {xs : List Value} (h : SlAt w v xs) (hp : 0 < xs.length) :
    ∃ g off c, v = .slice (some ⟨g, off, none⟩) xs.length c ∧ ∀ j u, xs[j]? = some u → w.cell? ⟨g, off + j, none⟩ = some u := by
  obtain ⟨ao, c, rfl, hn, hc⟩ := h.val
  cases ao with
  | none => rw [hn rfl] at hp; exact absurd hp (by simp)
  | some a =>
    obtain ⟨b, off, spot⟩ := a
    have h0 := hc _ rfl 0 xs[0] (List.getElem?_eq_getElem hp)
    have hspot : spot = Option.none := by simpa [Addr.add] using World.cell?_spot h0
    subst hspot
    exact ⟨b, off, c, rfl, fun j u hu => by rw [← Go.WideShapes.add_plain]; exact hc _ rfl j u hu⟩

theorem SlAt.elem {w : World} {ao : Option Addr} {n c : Nat} {xs : List Value} (h : SlAt w (.slice ao n c) xs) {i : Nat} {u : Value} (hu : xs[i]? = some u) : ∃ g off, ao = some ⟨g, off, none⟩ ∧ w.cell? ⟨g, off + i, none⟩ = some u := by
  have hi := (List.getElem?_eq_some_iff.1 hu).1
  obtain ⟨g, off, c', e, hc⟩ := h.addr (by omega)
  injection e with e1 e2 e3
  exact ⟨g, off, e1, hc i u hu⟩
theorem SlAt.len {w : World} {ao : Option Addr} {n c : Nat} {xs : List Value} (h : SlAt w (.slice ao n c) xs) : xs.length = n := by
  obtain ⟨_, _, e, _⟩ := h.val
  injection e with e1 e2 e3
  exact e2.symm
theorem run_cut {P : Program} {t E : TypeId} {i : TypeInfo} (ht : P.underlying t = some (.slice E)) (hi : P.info? E = some i) (hs : i.size = 1) (a : Option Addr) (len cap lo hi' : Nat) (hlo : lo ≤ hi') (hhi : hi' ≤ cap) (w : World) :
    (Instr.slice t (.slice a len cap) (some (.int .i64 (lo : Int))) (some (.int .i64 (hi' : Int))) none).run P w = .ok (.slice (if cap = lo then a else a.map (·.add lo)) (hi' - lo) (cap - lo)) w := by
  have he : P.elem t = E := by simp [Program.elem, ht]
  rw [run_slice_lh w t a len cap (by rw [he]; exact ht) .i64 .i64 lo hi' (by omega) (by omega) (by omega), he]
  simp [sizeOf, typeInfo, hi, hs, sliced]
theorem run_cutAt {P : Program} {t E : TypeId} {i : TypeInfo} (ht : P.underlying t = some (.slice E)) (hi : P.info? E = some i) (hs : i.size = 1) (a : Option Addr) (len cap lo hi' : Nat) (hlo : lo ≤ hi') (hhi : hi' ≤ cap) (w : World) :
    (Instr.sliceAt t (.slice a len cap) (some (.int .i64 (lo : Int))) (some (.int .i64 (hi' : Int))) none).run P w = .ok (.slice (if cap = lo then a else a.map (·.add lo)) (hi' - lo) (cap - lo)) w := by
  have he : P.elem t = E := by simp [Program.elem, ht]
  rw [run_sliceAt_slice w t _ _ _ _ (by rw [he]; exact ht)]
  exact run_cut ht hi hs a len cap lo hi' hlo hhi w
theorem add_add (a : Addr) (i j : Nat) : (a.add i).add j = a.add (i + j) := by
  unfold Addr.add
  by_cases hi : i = 0 <;> by_cases hj : j = 0 <;> simp [hi, hj, Nat.add_assoc]
theorem SlAt.cut {w : World} {ao : Option Addr} {n c : Nat} {xs : List Value} (h : SlAt w (.slice ao n c) xs) {lo hi : Nat} (h1 : lo ≤ hi) (h2 : hi ≤ n) (h3 : n ≤ c) :
    SlAt w (.slice (if c = lo then ao else ao.map (·.add lo)) (hi - lo) (c - lo)) ((xs.drop lo).take (hi - lo)) := by
  have hl := h.len
  obtain ⟨ao', c', e, hn, hc⟩ := h.val
  injection e with e1 e2 e3
  subst e1; subst e3
  have hlen : ((xs.drop lo).take (hi - lo)).length = hi - lo := by rw [List.length_take, List.length_drop]; omega
  refine ⟨_, _, by rw [hlen], ?_, ?_⟩
  · intro h0
    have hz : ao = none ∨ c = lo := by
      by_cases hcl : c = lo
      · exact .inr hcl
      · rw [if_neg hcl] at h0
        cases ao with
        | none => exact .inl rfl
        | some a => cases h0
    apply List.eq_nil_of_length_eq_zero
    rw [hlen]
    rcases hz with h0 | h0
    · have := hn h0; rw [this] at hl; simp at hl; omega
    · omega
  · intro a ha j u hu
    have hj : j < hi - lo := by have := (List.getElem?_eq_some_iff.1 hu).1; omega
    rw [if_neg (by omega)] at ha
    cases ao with
    | none => cases ha
    | some b =>
      cases ha
      rw [add_add]
      rw [List.getElem?_take, if_pos hj, List.getElem?_drop] at hu
      exact hc b rfl _ u hu
theorem own_cap {w : World} {B : Nat} {E : TypeId} {ao : Option Addr} {s n m c : Nat} {xs : List Value} (h : w.ownsRow B E s (.slice ao n c) m xs) : m ≤ c := by
  rcases h.2 with ⟨e, h0⟩ | ⟨g, cap, cur, e, _, _, hm, _⟩
  · omega
  · injection e with e1 e2 e3; omega

theorem add_zero' (a : Addr) : a.add 0 = a := by unfold Addr.add; simp
theorem run_cutH {P : Program} {t E : TypeId} {i : TypeInfo} (ht : P.underlying t = some (.slice E)) (hi : P.info? E = some i) (hs : i.size = 1) (a : Option Addr) (len cap h : Nat) (hhi : h ≤ cap) (w : World) :
    (Instr.slice t (.slice a len cap) none (some (.int .i64 (h : Int))) none).run P w = .ok (.slice a h cap) w := by
  have he : P.elem t = E := by simp [Program.elem, ht]
  rw [run_slice_h w t a len cap (by rw [he]; exact ht) .i64 h (by omega) (by omega), he]
  have e : (a.map fun x => x.add 0) = a := by cases a <;> simp [add_zero']
  simp [sizeOf, typeInfo, hi, hs, sliced, e]
theorem run_cutHAt {P : Program} {t E : TypeId} {i : TypeInfo} (ht : P.underlying t = some (.slice E)) (hi : P.info? E = some i) (hs : i.size = 1) (a : Option Addr) (len cap h : Nat) (hhi : h ≤ cap) (w : World) :
    (Instr.sliceAt t (.slice a len cap) none (some (.int .i64 (h : Int))) none).run P w = .ok (.slice a h cap) w := by
  have he : P.elem t = E := by simp [Program.elem, ht]
  rw [run_sliceAt_slice w t _ _ _ _ (by rw [he]; exact ht)]
  exact run_cutH ht hi hs a len cap h hhi w
theorem SlAt.takeH {w : World} {ao : Option Addr} {n c : Nat} {xs : List Value} (h : SlAt w (.slice ao n c) xs) {k : Nat} (hk : k ≤ n) : SlAt w (.slice ao k c) (xs.take k) := by
  have hl := h.len
  obtain ⟨ao', c', e, hn, hc⟩ := h.val
  injection e with e1 e2 e3
  subst e1; subst e3
  refine ⟨ao, c, by rw [List.length_take, Nat.min_eq_left (by omega)], fun h0 => by rw [hn h0]; simp, fun a ha j u hu => hc a ha j u ?_⟩
  rw [List.getElem?_take] at hu
  split at hu
  · exact hu
  · cases hu
theorem own_takeH {w : World} {B : Nat} {E : TypeId} {ao : Option Addr} {n c : Nat} {xs : List Value} (h : w.ownsRow B E 1 (.slice ao n c) n xs) {k : Nat} (hk : k ≤ n) : w.ownsRow B E 1 (.slice ao k c) k (xs.take k) := by
  refine ⟨by rw [List.length_take, h.1]; omega, ?_⟩
  rcases h.2 with ⟨e, h0⟩ | ⟨g, cap, cur, e, hb, hg, hnc, hcm, hcs, ht⟩
  · injection e with e1 e2 e3
    subst e1; subst e3
    exact .inl ⟨by rw [show k = 0 by omega], by omega⟩
  · injection e with e1 e2 e3
    subst e1; subst e3
    refine .inr ⟨g, c, cur, rfl, hb, hg, by omega, hcm, hcs, ?_⟩
    rw [← ht, List.take_take]
    congr 1
    omega

theorem run_cutL {P : Program} {t E : TypeId} {i : TypeInfo} (ht : P.underlying t = some (.slice E)) (hi : P.info? E = some i) (hs : i.size = 1) (a : Option Addr) (len cap lo : Nat) (hlo : lo ≤ len) (w : World) :
    (Instr.slice t (.slice a len cap) (some (.int .i64 (lo : Int))) none none).run P w = .ok (.slice (if cap = lo then a else a.map (·.add lo)) (len - lo) (cap - lo)) w := by
  have he : P.elem t = E := by simp [Program.elem, ht]
  rw [run_slice_l w t a len cap (by rw [he]; exact ht) .i64 lo (by omega) (by omega), he]
  simp [sizeOf, typeInfo, hi, hs, sliced]
theorem run_cutLAt {P : Program} {t E : TypeId} {i : TypeInfo} (ht : P.underlying t = some (.slice E)) (hi : P.info? E = some i) (hs : i.size = 1) (a : Option Addr) (len cap lo : Nat) (hlo : lo ≤ len) (w : World) :
    (Instr.sliceAt t (.slice a len cap) (some (.int .i64 (lo : Int))) none none).run P w = .ok (.slice (if cap = lo then a else a.map (·.add lo)) (len - lo) (cap - lo)) w := by
  have he : P.elem t = E := by simp [Program.elem, ht]
  rw [run_sliceAt_slice w t _ _ _ _ (by rw [he]; exact ht)]
  exact run_cutL ht hi hs a len cap lo hlo w
theorem SlAt.cutL {w : World} {ao : Option Addr} {n c : Nat} {xs : List Value} (h : SlAt w (.slice ao n c) xs) {lo : Nat} (h1 : lo ≤ n) (h3 : n ≤ c) :
    SlAt w (.slice (if c = lo then ao else ao.map (·.add lo)) (n - lo) (c - lo)) (xs.drop lo) := by
  have := h.cut (lo := lo) (hi := n) h1 (Nat.le_refl _) h3
  rwa [List.take_of_length_le (by rw [List.length_drop, h.len]; exact Nat.le_refl _)] at this

/-- A row of one-cell elements that was made behind the world W. -/
structure Mine (W w : World) (E : TypeId) (v : Value) (xs : List Value) : Prop where
  own : w.ownsRow W.heap.size E 1 v xs.length xs
  kept : Kept (fun _ => False) W w
theorem Mine.nil (w : World) (E : TypeId) : Mine w w E (.slice none 0 0) [] := ⟨World.ownsRow_nil _ _ _ _, Kept.refl _ _⟩
theorem Mine.nil' {W w : World} (E : TypeId) (h : Kept (fun _ => False) W w) : Mine W w E (.slice none 0 0) [] := ⟨World.ownsRow_nil _ _ _ _, h⟩
theorem Mine.on {W w w' : World} {E : TypeId} {v : Value} {xs : List Value} (h : Mine W w E v xs) (hk : Kept (fun _ => False) w w') : Mine W w' E v xs := ⟨hk.owns h.own (fun _ _ x => x), h.kept.trans hk⟩
theorem Mine.alloc {W w : World} {E : TypeId} {v : Value} {xs : List Value} (h : Mine W w E v xs) (o : Obj) : Mine W (w.alloc o) E v xs := h.on ((Kept.refl _ _).alloc o)
theorem Mine.down {W W0 w : World} {E : TypeId} {v : Value} {xs : List Value} (h : Mine W w E v xs) (hk : Kept (fun _ => False) W0 W) : Mine W0 w E v xs := by
  refine ⟨⟨h.own.1, ?_⟩, hk.trans h.kept⟩
  rcases h.own.2 with h0 | ⟨g, cap, cur, e, hg, rest⟩
  · exact .inl h0
  · exact .inr ⟨g, cap, cur, e, Nat.le_trans hk.size hg, rest⟩
theorem Mine.at_ {W w : World} {E : TypeId} {v : Value} {xs : List Value} (h : Mine W w E v xs) : SlAt w v xs := SlAt.ofOwn h.own
theorem Mine.slice {W w : World} {E : TypeId} {v : Value} {xs : List Value} (h : Mine W w E v xs) : ∃ a c, v = .slice a xs.length c := ownsRow_slice h.own
theorem Mine.ofFresh {W w : World} {E : TypeId} {v : Value} {n : Nat} {xs : List Value} (h : w.ownsRow W.heap.size E 1 v n xs) (hk : Kept (fun _ => False) W w) : Mine W w E v xs := by
  have : xs.length = n := by simpa using h.1
  subst this
  exact ⟨h, hk⟩

theorem wpList_mine {P : Program} {ops : Array Oper} {rest : List Oper} {o : Oper} {a : Act} {Q : Exit → Act → World → Prop} {w : World} (hgd : o.guard = none) (s x : Operand) (t tx : TypeId)
    (ho : o.op = .call { callee := .builtin .append, args := #[s, x], argTypes := #[t, tx] })
    (e : TypeId) (i : TypeInfo) (z : Value) (bytes : Nat) (ht : P.underlying t = some (.slice e)) (hi : P.info? e = some i) (hz : i.zero = some z)
    (hsize : i.size = 1) (hby : i.bytes = bytes) (hzs : z.cells.size = 1) (hb : bytes ≤ 64)
    (W : World) (v : Value) (xs : List Value) (hv : a.eval s = v) (hm : Mine W w e v xs)
    (y : Value) (news : List Value) (hy : a.eval x = y) (hs : Src P 1 tx y news.length news w)
    (hl : xs.length + news.length ≤ 1000000000000)
    (h : ∀ v' w', Mine W w' e v' (xs ++ news) → wpList P ops Q rest (a.put o.dst v') w') : wpList P ops Q (o :: rest) a w := by
  refine wpList_append_src w hgd s x t tx ho W.heap.size e i z 1 bytes ht hi hz hsize hby hzs v xs.length xs hv hm.own y news.length news hy hs (by unfold maxLen; omega) ?_ hm.kept.size ?_
  · have := Nat.mul_le_mul hl hb; omega
  · intro v' w' hown hg _ _
    refine h v' w' ⟨by rw [List.length_append]; exact hown, hm.kept.grown hg (fun k e hlt => ?_)⟩
    have := (ownsRow_lt hm.own e).2; omega
theorem Kept.newer {W w w' : World} {S : Nat → Prop} (h : Kept (fun _ => False) W w) (k : Kept S w w') (hs : ∀ i, S i → W.heap.size ≤ i) : Kept (fun _ => False) W w' := h.step k (fun i hi x => by have := hs i x; omega)
theorem Kept.newest {W w w' : World} {S : Nat → Prop} (h : Kept (fun _ => False) W w) (k : Kept S w w') (hs : ∀ i, S i → W.heap.size ≤ i) : Kept (fun _ => False) W w' := h.newer k hs
theorem Mine.keptS {S : Nat → Prop} {W w w' : World} {E : TypeId} {v : Value} {xs : List Value} (h : Mine W w E v xs) (hk : Kept S w w') (hn : ∀ k, v.ownBlock = some k → ¬ S k) (hs : ∀ k, S k → W.heap.size ≤ k) : Mine W w' E v xs := ⟨hk.owns h.own hn, h.kept.newer hk hs⟩
theorem own_box {w : World} {B : Nat} {v : Value} {xs : List Value} {n s : Nat} {T E : TypeId} {cs : Array Value} {fr : Nat × Nat} {k : Nat} (ho : w.ownsRow B E s v n xs) (hb : w.heap[k]? = some (.cells cs T fr)) (hne : E ≠ T) : v.ownBlock ≠ some k := by
  intro e
  obtain ⟨cur, hc⟩ := ownsRow_block ho e
  rw [hb] at hc
  injection hc with this; injection this with _ e _
  exact hne e.symm
/-- The same, with what was turned. -/
theorem wpList_mine2 {P : Program} {ops : Array Oper} {rest : List Oper} {o : Oper} {a : Act} {Q : Exit → Act → World → Prop} {w : World} (hgd : o.guard = none) (s x : Operand) (t tx : TypeId)
    (ho : o.op = .call { callee := .builtin .append, args := #[s, x], argTypes := #[t, tx] })
    (e : TypeId) (i : TypeInfo) (z : Value) (bytes : Nat) (ht : P.underlying t = some (.slice e)) (hi : P.info? e = some i) (hz : i.zero = some z)
    (hsize : i.size = 1) (hby : i.bytes = bytes) (hzs : z.cells.size = 1) (hb : bytes ≤ 64)
    (W : World) (v : Value) (xs : List Value) (hv : a.eval s = v) (hm : Mine W w e v xs)
    (y : Value) (news : List Value) (hy : a.eval x = y) (hs : Src P 1 tx y news.length news w)
    (hl : xs.length + news.length ≤ 1000000000000)
    (h : ∀ v' w', Mine W w' e v' (xs ++ news) → Kept (fun k => v.ownBlock = some k) w w' → (v'.ownBlock = v.ownBlock ∨ v'.ownBlock = some w.heap.size) → wpList P ops Q rest (a.put o.dst v') w') : wpList P ops Q (o :: rest) a w := by
  refine wpList_append_src w hgd s x t tx ho W.heap.size e i z 1 bytes ht hi hz hsize hby hzs v xs.length xs hv hm.own y news.length news hy hs (by unfold maxLen; omega) ?_ hm.kept.size ?_
  · have := Nat.mul_le_mul hl hb; omega
  · intro v' w' hown hg _ hat
    refine h v' w' ⟨by rw [List.length_append]; exact hown, hm.kept.grown hg (fun k e hlt => ?_)⟩ ((Kept.refl (fun k => v.ownBlock = some k) w).grown hg (fun k e _ => e)) hat
    have := (ownsRow_lt hm.own e).2; omega
/-- At a step of a region that draws its order. -/
theorem step_mine {P : Program} {ops : Array Oper} {o : Oper} {a : Act} {K : Act → World → Prop} {Q : Exit → Act → World → Prop} {E : Prop} {w : World} (hgd : o.guard = none) (s x : Operand) (t tx : TypeId)
    (ho : o.op = .call { callee := .builtin .append, args := #[s, x], argTypes := #[t, tx] })
    (e : TypeId) (i : TypeInfo) (z : Value) (bytes : Nat) (ht : P.underlying t = some (.slice e)) (hi : P.info? e = some i) (hz : i.zero = some z)
    (hsize : i.size = 1) (hby : i.bytes = bytes) (hzs : z.cells.size = 1) (hb : bytes ≤ 64)
    (W : World) (v : Value) (xs : List Value) (hv : a.eval s = v) (hm : Mine W w e v xs)
    (y : Value) (news : List Value) (hy : a.eval x = y) (hs : Src P 1 tx y news.length news w)
    (hl : xs.length + news.length ≤ 1000000000000)
    (h : ∀ v' w', Mine W w' e v' (xs ++ news) → Kept (fun k => v.ownBlock = some k) w w' → (v'.ownBlock = v.ownBlock ∨ v'.ownBlock = some w.heap.size) → K (a.put o.dst v') w') :
    if Region.wanted o (yielded ops a.tmps) = true then Oper.wp P o a w K Q else E := by
  refine step_append_src w hgd s x t tx ho W.heap.size e i z 1 bytes ht hi hz hsize hby hzs v xs.length xs hv hm.own y news.length news hy hs (by unfold maxLen; omega) ?_ hm.kept.size ?_
  · have := Nat.mul_le_mul hl hb; omega
  · intro v' w' hown hg _ hat
    refine h v' w' ⟨by rw [List.length_append]; exact hown, hm.kept.grown hg (fun k e hlt => ?_)⟩ ((Kept.refl (fun k => v.ownBlock = some k) w).grown hg (fun k e _ => e)) hat
    have := (ownsRow_lt hm.own e).2; omega
theorem Mine.src {P : Program} {W w w' : World} {E t e : TypeId} {v : Value} {xs : List Value} (h : Mine W w E v xs) (hk : Kept (fun _ => False) w w') (ht : P.underlying t = some (.slice e)) (h1 : ∀ u ∈ xs, u.oneCell' = true) : Src P 1 t v xs.length xs w' := (h.on hk).at_.src ht h1

/-- A slice of integers that came in, as the row of its elements. -/
theorem IsRow.slAtI {k : IntKind} {w : World} {a : Option Addr} {len cap : Nat} {zs : List Int} (h : IsRow k w a len cap zs) :
    ∃ l : List Int, l.length = len ∧ (∀ x ∈ l, (Lit.int k x).wf = true) ∧ SlAt w (.slice a len cap) (l.map (Value.int k)) := by
  rcases h with ⟨rfl, rfl, rfl, rfl⟩ | ⟨x, rfl, hlc, _, hz, hcell, hwf⟩
  · exact ⟨[], rfl, by simp, ⟨none, 0, rfl, fun _ => rfl, by simp⟩⟩
  · refine ⟨zs.take len, by simp; omega, fun y hy => hwf y (List.mem_of_mem_take hy), ⟨some x, cap, ?_, (fun e => by cases e), ?_⟩⟩
    · rw [List.length_map, List.length_take, Nat.min_eq_left (by omega)]
    · intro a ha j u hu
      cases ha
      have hj : j < len := by
        have := (List.getElem?_eq_some_iff.1 hu).1
        simp at this; omega
      have hjz : j < zs.length := by omega
      rw [hcell j hjz, List.getD_eq_getElem?_getD, List.getElem?_eq_getElem hjz]
      simp only [List.getElem?_map, List.getElem?_take, if_pos hj, List.getElem?_eq_getElem hjz, Option.map_some] at hu
      exact hu
theorem IsRow.slAtN {k : IntKind} {w : World} {a : Option Addr} {len cap : Nat} {zs : List Int} (M : Nat) (hk : ∀ x, (Lit.int k x).wf = true → 0 ≤ x ∧ x < M) (h : IsRow k w a len cap zs) :
    ∃ l : List Nat, l.length = len ∧ (∀ x ∈ l, x < M) ∧ SlAt w (.slice a len cap) (l.map fun (n : Nat) => Value.int k (n : Int)) := by
  obtain ⟨l, hl, hb, hv⟩ := h.slAtI
  refine ⟨l.map Int.toNat, by simpa using hl, ?_, ?_⟩
  · intro n hn
    obtain ⟨m, hm, rfl⟩ := List.mem_map.1 hn
    have := hk m (hb m hm)
    omega
  · have e : (l.map Int.toNat).map (fun (n : Nat) => Value.int k (n : Int)) = l.map (Value.int k) := by
      rw [List.map_map]
      apply List.map_congr_left
      intro m hm
      have := hk m (hb m hm)
      simp only [Function.comp_apply]
      congr 1
      omega
    rw [e]; exact hv
theorem wf_u64 (x : Int) (h : (Lit.int .u64 x).wf = true) : 0 ≤ x ∧ x < (18446744073709551616 : Nat) := by
  have := bd_u64 h; omega


def uvals (l : List Nat) : List Value := l.map fun (n : Nat) => Value.int .u64 (n : Int)
theorem uvals_get {l : List Nat} {j : Nat} (h : j < l.length) : (uvals l)[j]? = some (.int .u64 ((l.getD j 0 : Nat) : Int)) := by
  simp [uvals, List.getD_eq_getElem?_getD, List.getElem?_eq_getElem h]
theorem getD_u64 {l : List Nat} (h : ∀ x ∈ l, x < 18446744073709551616) (j : Nat) : l.getD j 0 < 18446744073709551616 := by
  rw [List.getD_eq_getElem?_getD]
  by_cases hj : j < l.length
  · rw [List.getElem?_eq_getElem hj]; exact h _ (List.getElem_mem hj)
  · rw [List.getElem?_eq_none (by omega)]; decide
/-- Signed numbers as values. -/
def vals (l : List Int) : List Value := l.map (Value.int .i64)
@[simp] theorem vals_length (l : List Int) : (vals l).length = l.length := by simp [vals]
theorem vals_get {l : List Int} {j : Nat} (h : j < l.length) : (vals l)[j]? = some (.int .i64 (l.getD j 0)) := by
  simp [vals, List.getD_eq_getElem?_getD, List.getElem?_eq_getElem h]
theorem vals_one (l : List Int) : ∀ u ∈ vals l, u.oneCell' = true := by
  intro u hu; obtain ⟨x, _, rfl⟩ := List.mem_map.1 hu; rfl
/-- A signed number of 64 bits. -/
def I64 (x : Int) : Prop := -9223372036854775808 ≤ x ∧ x ≤ 9223372036854775807
theorem getD_I64 {l : List Int} (h : ∀ x ∈ l, I64 x) (j : Nat) : I64 (l.getD j 0) := by
  rw [List.getD_eq_getElem?_getD]
  by_cases hj : j < l.length
  · rw [List.getElem?_eq_getElem hj]; exact h _ (List.getElem_mem hj)
  · rw [List.getElem?_eq_none (by omega)]; exact ⟨by decide, by decide⟩

theorem uvals_length (l : List Nat) : (uvals l).length = l.length := by simp [uvals]
theorem uvals_one (l : List Nat) : ∀ u ∈ uvals l, u.oneCell' = true := by
  intro u hu; obtain ⟨x, _, rfl⟩ := List.mem_map.1 hu; rfl
theorem wrap64_range (x : Int) : I64 (wrap64 x) := by unfold I64 wrap64; omega
/-- A signed number's bits as a number. -/
def uN (d : Int) : Nat := (d % 18446744073709551616).toNat
theorem uN_lt (d : Int) : uN d < 18446744073709551616 := by unfold uN; omega
theorem uN_u64 (d : Int) : IntKind.u64.wrap d = ((uN d : Nat) : Int) := by rw [IntKind.wrap_u64]; unfold uN; omega
theorem uN_i64 (d : Int) (h0 : -9223372036854775808 ≤ d) (h1 : d ≤ 9223372036854775807) : wrap64 ((uN d : Nat) : Int) = d := by unfold uN wrap64; omega
theorem beqT {a b : Int} (h : a = b) : (a == b) = true := beq_iff_eq.2 h
theorem beqF {a b : Int} (h : a ≠ b) : (a == b) = false := beq_eq_false_iff_ne.2 h
theorem bneT {a b : Int} (h : a ≠ b) : (a != b) = true := bne_iff_ne.2 h
theorem bneF {a b : Int} (h : a = b) : (a != b) = false := by simp [h]
theorem owns_set {w : World} {base : Nat} {E : TypeId} {g n cap : Nat} {xs : List Value} (h : w.ownsRow base E 1 (.slice (some ⟨g, 0, none⟩) n cap) n xs) (j : Nat) (u : Value) :
    (w.setCell ⟨g, j, none⟩ u).ownsRow base E 1 (.slice (some ⟨g, 0, none⟩) n cap) n (xs.set j u) := by
  refine ⟨by simpa using h.1, ?_⟩
  rcases h.2 with ⟨e, _⟩ | ⟨g', cap', cur, e, hb, hg, hn, hm, hs, ht⟩
  · cases e
  · injection e with e1 e2 e3
    injection e1 with e1
    injection e1 with e1
    subst e1
    subst e3
    refine .inr ⟨g, cap, cur.setIfInBounds j u, rfl, hb, ?_, hn, hm, by simpa using hs, ?_⟩
    · simp [World.setCell, Array.getElem?_modify, hg]
    · rw [← ht]
      simp [List.take_set]
end Go.Proofs.YtjpnfadmblmjbaaDoor
/- Histograms, plainly: what is wrong with a side, a total; a side more coarsely. -/
namespace Go.Proofs.YtjpnfadmblmjbaaDoor

/-- What is wrong with a side. -/
def sideE (o : Int) (l : List Nat) : Nat :=
  if 160 < l.length then 4
  else if l.length = 0 then (if o = 0 then 0 else 3)
  else if l.getD 0 0 = 0 ∨ l.getD (l.length - 1) 0 = 0 then 3
  else if o < -1073741824 ∨ 1073741824 < o + ((l.length : Nat) : Int) - 1 then 1 else 0
/-- A sum, if 64 bits hold it. -/
def sumN (a : Nat) (l : List Nat) : Nat := a + l.sum
theorem sumN_nil (a : Nat) : sumN a [] = a := by simp [sumN]
theorem sumN_cons (a x : Nat) (l : List Nat) : sumN a (x :: l) = sumN (a + x) l := by simp [sumN]; omega
theorem sumN_take (a : Nat) (l : List Nat) (i : Nat) (h : i < l.length) : sumN a (l.take (i + 1)) = sumN a (l.take i) + l.getD i 0 := by
  have e : l.getD i 0 = l[i] := by rw [List.getD_eq_getElem?_getD, List.getElem?_eq_getElem h]; rfl
  rw [List.take_succ_eq_append_getElem h, e]
  unfold sumN
  rw [List.sum_append, List.sum_singleton]; omega
theorem sumN_le (a : Nat) (l : List Nat) (i : Nat) : sumN a (l.take i) ≤ sumN a l := by
  have : l.sum = (l.take i).sum + (l.drop i).sum := by rw [← List.sum_append, List.take_append_drop]
  unfold sumN; omega

/-- A histogram. -/
structure HistV where
  sc : Int
  ze : Nat
  po : Int
  pl : List Nat
  no : Int
  nl : List Nat
def HistV.total (h : HistV) : Nat := sumN (sumN h.ze h.pl) h.nl
/-- What is wrong with a histogram. -/
def HistV.err (h : HistV) : Nat :=
  if h.sc < -10 ∨ 20 < h.sc then 1
  else if sideE h.po h.pl ≠ 0 then sideE h.po h.pl
  else if sideE h.no h.nl ≠ 0 then sideE h.no h.nl
  else if 18446744073709551616 ≤ h.total then 4 else 0
/-- The numbers that a histogram's fields may be. -/
structure HistV.ok (h : HistV) : Prop where
  sc : -9223372036854775808 ≤ h.sc ∧ h.sc ≤ 9223372036854775807
  ze : h.ze < 18446744073709551616
  po : -9223372036854775808 ≤ h.po ∧ h.po ≤ 9223372036854775807
  pl : ∀ x ∈ h.pl, x < 18446744073709551616
  no : -9223372036854775808 ≤ h.no ∧ h.no ≤ 9223372036854775807
  nl : ∀ x ∈ h.nl, x < 18446744073709551616
end Go.Proofs.YtjpnfadmblmjbaaDoor
/- package hist: checkSide, Total. -/
namespace Go.Proofs.YtjpnfadmblmjbaaDoor
open Go.RowKit
attribute [local go_sem ↓] Go.wp_at_zero Go.wp_at_succ

set_option maxHeartbeats 1000000 in
theorem checkSide_any (o : Int) (l : List Nat) (v : Value) (w : World) (hv : SlAt w v (uvals l)) (ho : I64 o) :
    Calls Tryd.prog 87 #[.agg #[.int .i64 o, v]] w fun e w' => e = .returned (.int .i64 ((sideE o l : Nat) : Int)) ∧ Kept (fun _ => False) w w' := by
  obtain ⟨h0, h1⟩ := ho
  have hv0 := Lib.hid hv
  obtain ⟨ao, c, hval, _, _⟩ := hv.val
  rw [uvals_length] at hval
  subst hval
  by_cases hA : 160 < l.length
  · have e : sideE o l = 4 := by unfold sideE; rw [if_pos hA]
    have q : (160 : Int) < (l.length : Int) := by omega
    rw [e]
    clear hv e
    go_enter Tryd.func87, Tryd.ntmps87
    go_wp2
    go_ret
    exact ⟨rfl, (Kept.refl _ _).alloc _⟩
  · have q1 : ¬ (160 : Int) < (l.length : Int) := by omega
    have q1b : decide (160 < l.length) = false := decide_eq_false hA
    by_cases hB : l.length = 0
    · have q2 : ((l.length : Int) == 0) = true := beqT (by omega)
      by_cases hC : o = 0
      · have e : sideE o l = 0 := by unfold sideE; rw [if_neg hA, if_pos hB, if_pos hC]
        rw [e]
        have q3 : (o != 0) = false := by simp [hC]
        clear hv e hC hB
        go_enter Tryd.func87, Tryd.ntmps87
        go_wp2
        go_ret
        exact ⟨rfl, (Kept.refl _ _).alloc _⟩
      · have e : sideE o l = 3 := by unfold sideE; rw [if_neg hA, if_pos hB, if_neg hC]
        rw [e]
        have q3 : (o != 0) = true := by simp [hC]
        clear hv e hC hB
        go_enter Tryd.func87, Tryd.ntmps87
        go_wp2
        go_ret
        exact ⟨rfl, (Kept.refl _ _).alloc _⟩
    · have q2 : ((l.length : Int) == 0) = false := beqF (by omega)
      obtain ⟨n, hn⟩ : ∃ n, n = l.length - 1 := ⟨_, rfl⟩
      have hv1 := hv.kept ((Kept.refl (fun _ => False) w).alloc (.cells #[.int .i64 o, .slice ao l.length c] 60)) (fun _ _ x => x)
      obtain ⟨g, off, e1, c0⟩ := hv1.elem (uvals_get (j := 0) (by omega))
      subst e1
      obtain ⟨_, _, e', c1⟩ := hv1.elem (uvals_get (j := n) (by omega))
      injection e' with e'; injection e' with e1 e2; subst e1; subst e2
      rw [Nat.add_zero] at c0
      have l0 : (0 : Int) < (l.length : Int) := by omega
      have l0n : 0 < l.length := by omega
      have n1 : IntKind.i64.wrap ((l.length : Int) - 1) = (n : Int) := by rw [IntWalk.i64_in _ ⟨by omega, by omega⟩]; omega
      have n2 : (l.length : Int) - 1 = (n : Int) := by omega
      have n0 : (0 : Int) ≤ (n : Int) := by omega
      have nl : (n : Int) < (l.length : Int) := by omega
      obtain ⟨x, hx⟩ : ∃ x, x = l.getD 0 0 := ⟨_, rfl⟩
      obtain ⟨y, hy⟩ : ∃ y, y = l.getD n 0 := ⟨_, rfl⟩
      have hd : sideE o l = if x = 0 ∨ y = 0 then 3 else if o < -1073741824 ∨ 1073741824 < o + ((l.length : Nat) : Int) - 1 then 1 else 0 := by
        unfold sideE; rw [if_neg hA, if_neg hB, hx, hy, hn]
      have HD := Lib.hid hd
      rw [← hx] at c0
      rw [← hy] at c1
      have m1 : 1073741824 - (n : Int) = 1073741825 - (l.length : Int) := by omega
      have hcase : x = 0 ∨ (x ≠ 0 ∧ y = 0) ∨ (x ≠ 0 ∧ y ≠ 0 ∧ o < -1073741824) ∨ (x ≠ 0 ∧ y ≠ 0 ∧ ¬ o < -1073741824 ∧ 1073741824 - (n : Int) < o) ∨ (x ≠ 0 ∧ y ≠ 0 ∧ ¬ o < -1073741824 ∧ ¬ 1073741824 - (n : Int) < o) := by omega
      have hres : (x = 0 ∨ y = 0 → sideE o l = 3) ∧ (x ≠ 0 → y ≠ 0 → (o < -1073741824 ∨ 1073741824 - (n : Int) < o) → sideE o l = 1) ∧ (x ≠ 0 → y ≠ 0 → ¬ o < -1073741824 → ¬ 1073741824 - (n : Int) < o → sideE o l = 0) := by
        rw [hd]
        refine ⟨fun h => by rw [if_pos h], fun a b h => by rw [if_neg (by omega), if_pos (by omega)], fun a b h i => by rw [if_neg (by omega), if_neg (by omega)]⟩
      have s1 : IntKind.i64.wrap (1073741824 - (n : Int)) = 1073741824 - (n : Int) := IntWalk.i64_in _ ⟨by omega, by omega⟩
      have HRES := Lib.hid hres
      clear hv hv1 hd hres hx hy hn hA hB m1
      rcases hcase with h | ⟨h, h'⟩ | ⟨h, h', h''⟩ | ⟨h, h', h'', h3⟩ | ⟨h, h', h'', h3⟩
      · have e := HRES.out.1 (.inl h)
        have qx : ((x : Int) == 0) = true := by simp; omega
        rw [e]
        clear e h
        go_enter Tryd.func87, Tryd.ntmps87
        go_wp2
        go_ret
        exact ⟨rfl, (Kept.refl _ _).alloc _⟩
      · have e := HRES.out.1 (.inr h')
        have qx : ((x : Int) == 0) = false := by simp; omega
        have qy : ((y : Int) == 0) = true := by simp; omega
        rw [e]
        clear e h h'
        go_enter Tryd.func87, Tryd.ntmps87
        go_wp2
        go_ret
        exact ⟨rfl, (Kept.refl _ _).alloc _⟩
      all_goals
        have qx : ((x : Int) == 0) = false := by simp; omega
        have qy : ((y : Int) == 0) = false := by simp; omega
        first
          | have e := HRES.out.2.2 h h' h'' h3
          | have e := HRES.out.2.1 h h' (.inr h3)
          | have e := HRES.out.2.1 h h' (.inl h'')
        rw [e]
        clear e h h'
        go_enter Tryd.func87, Tryd.ntmps87
        go_wp2
        go_ret
        exact ⟨rfl, (Kept.refl _ _).alloc _⟩

theorem add64_run (x y : Nat) (w : World) : (callFunc 95 #[.int .u64 (x : Int), .int .u64 (y : Int), .int .u64 0]).run Tryd.prog w = .ok (.value (.tuple #[.int .u64 (((x + y) % 18446744073709551616 : Nat) : Int), .int .u64 (((x + y) / 18446744073709551616 : Nat) : Int)])) w := by
  rw [run_callFunc_extern Tryd.func95 (by kernel_rfl) (by kernel_rfl) (by kernel_rfl) (e := add64Entry) (by kernel_rfl), run_add64 x y 0 (by omega) (by omega) (by omega) (by omega)]
  simp only [Result.andThen]
  congr 5 <;> omega
end Go.Proofs.YtjpnfadmblmjbaaDoor
/- package hist: Total, Check. -/
namespace Go.Proofs.YtjpnfadmblmjbaaDoor
open Go.RowKit
attribute [local go_sem ↓] Go.wp_at_zero Go.wp_at_succ

/-- The value that a histogram is. -/
def histV (h : HistV) (pv nv : Value) : Value := .agg #[.int .i64 h.sc, .int .u64 (h.ze : Int), .int .i64 h.po, pv, .int .i64 h.no, nv]
/-- Its sides' counts lie in the slices pv and nv. -/
structure HistAt (w : World) (h : HistV) (pv nv : Value) : Prop where
  p : SlAt w pv (uvals h.pl)
  n : SlAt w nv (uvals h.nl)
theorem HistAt.kept {S : Nat → Prop} {w w' : World} {h : HistV} {pv nv : Value} (a : HistAt w h pv nv) (hk : Kept S w w') (hp : ∀ k, pv.ownBlock = some k → ¬ S k) (hn : ∀ k, nv.ownBlock = some k → ¬ S k) : HistAt w' h pv nv := ⟨a.p.kept hk hp, a.n.kept hk hn⟩
theorem HistAt.on {w w' : World} {h : HistV} {pv nv : Value} (a : HistAt w h pv nv) (hk : Kept (fun _ => False) w w') : HistAt w' h pv nv := a.kept hk (fun _ _ x => x) (fun _ _ x => x)
theorem HistAt.sl {w : World} {h : HistV} {pv nv : Value} (a : HistAt w h pv nv) : (∃ ao c, pv = .slice ao h.pl.length c) ∧ ∃ bo d, nv = .slice bo h.nl.length d := by
  obtain ⟨ao, c, e, _⟩ := a.p.val
  obtain ⟨bo, d, e', _⟩ := a.n.val
  rw [uvals_length] at e e'
  exact ⟨⟨ao, c, e⟩, bo, d, e'⟩

/-- What Total answers. -/
def totV (h : HistV) : Value := .tuple #[.int .u64 (((if h.total < 18446744073709551616 then h.total else 0 : Nat)) : Int), .bool (decide (h.total < 18446744073709551616))]

set_option maxHeartbeats 4000000 in
set_option maxRecDepth 100000 in
theorem histTotal_any (h : HistV) (pv nv : Value) (w : World) (ha : HistAt w h pv nv) (hz : h.ze < 18446744073709551616) (hp : h.pl.length ≤ 1000000) (hn : h.nl.length ≤ 1000000) (hpb : ∀ x ∈ h.pl, x < 18446744073709551616) (hnb : ∀ x ∈ h.nl, x < 18446744073709551616) :
    Calls Tryd.prog 88 #[histV h pv nv] w fun e w' => e = .returned (totV h) ∧ Kept (fun _ => False) w w' := by
  obtain ⟨⟨ao, c, rfl⟩, bo, d, rfl⟩ := ha.sl
  obtain ⟨sc, ze, po, pl, no, nl⟩ := h
  have HA := Lib.hid ha
  obtain ⟨TOT, hTOT⟩ : ∃ T, T = sumN (sumN ze pl) nl := ⟨_, rfl⟩
  have htt : HistV.total ⟨sc, ze, po, pl, no, nl⟩ = TOT := hTOT.symm
  have HTOT := Lib.hid hTOT
  have HT2 := Lib.hid (show sumN ze pl ≤ TOT by rw [hTOT]; unfold sumN; omega)
  have HBAD : Hid (18446744073709551616 ≤ TOT → Ending.returned (.tuple #[.int .u64 0, .bool false]) = .returned (totV ⟨sc, ze, po, pl, no, nl⟩)) := Lib.hid fun hb => by
    unfold totV; rw [htt, if_neg (by omega), decide_eq_false (by omega)]; rfl
  have HGOOD : Hid (∀ S : Nat, S = TOT → S < 18446744073709551616 → Ending.returned (.tuple #[.int .u64 (S : Int), .bool true]) = .returned (totV ⟨sc, ze, po, pl, no, nl⟩)) := Lib.hid fun S e hb => by
    unfold totV; rw [htt, ← e, if_pos hb, decide_eq_true hb]
  unfold histV
  simp only at hz hp hn hpb hnb ⊢
  clear ha htt hTOT
  go_enter Tryd.func88, Tryd.ntmps88
  go_wp2
  go_loopg [4, 6, 8, 9, 10, 18, 19, 20, 21, 22, 23, 24, 25, 26, 27, 28, 29, 30, 31, 32, 33, 34, 35, 36, 37, 38] 2 (fun g s4 s6 s8 s9 s10 s18 s19 s20 s21 s22 s23 s24 s25 s26 s27 s28 s29 s30 s31 s32 s33 s34 s35 s36 s37 s38 wr => ∃ (k S : Nat), k ≤ 2 ∧ g = 2 - k ∧ s18 = .int .i64 k ∧ s4 = .int .u64 S ∧ S < 18446744073709551616 ∧ (k = 0 ∧ S = ze ∨ k = 1 ∧ S = sumN ze pl ∨ k = 2 ∧ S = TOT) ∧ Kept (fun _ => False) w wr)
  case atStart => exact ⟨0, ze, by omega, rfl, rfl, rfl, hz, .inl ⟨rfl, rfl⟩, (Kept.refl _ _).alloc _⟩
  case round =>
    obtain ⟨k, S, hk2, rfl, rfl, rfl, hS, hcase, hkw⟩ := hrel
    have HK := Lib.hid hkw
    clear hkw
    rcases hcase with ⟨rfl, hSS⟩ | ⟨rfl, hSS⟩ | ⟨rfl, hSS⟩
    · have HSS := Lib.hid hSS
      clear hSS hk2
      have hcell := fun w' (h : Kept (fun _ => False) w w') i (hi : i < pl.length) => (HA.out.p.kept h (fun _ _ x => x)).elem (uvals_get hi)
      have HC := Lib.hid hcell
      obtain ⟨T, hT⟩ : ∃ T, T = sumN S pl := ⟨_, rfl⟩
      have hstep := fun i (hi : i < pl.length) => sumN_take S pl i hi
      have hle := fun i => sumN_le S pl i
      rw [← hT] at hle
      have HST := Lib.hid hstep
      have HLE := Lib.hid hle
      have HTT := Lib.hid hT
      have ix : ∀ w, (Instr.index 118 (.agg #[.int .i64 po, .slice ao pl.length c, .int .i64 no, .slice bo nl.length d]) (.int .i64 0)).run Tryd.prog w = .ok (.agg #[.int .i64 po, .slice ao pl.length c]) w := fun _ => by kernel_rfl
      clear hcell hstep hle hT
      go_wp2
      obtain ⟨wa, hwa⟩ : ∃ wa, wa = wr.alloc (.cells #[.int .i64 po, .slice ao pl.length c] 60) := ⟨_, rfl⟩
      have KA := Lib.hid (show Kept (fun _ => False) w wa from by rw [hwa]; exact HK.out.alloc _)
      rw [← hwa]
      clear hwa
      go_loopg [4, 8, 9, 10, 24, 25, 26, 27, 28, 29, 30, 31, 32, 33, 34, 35, 36, 37] pl.length (fun g s4 s8 s9 s10 s24 s25 s26 s27 s28 s29 s30 s31 s32 s33 s34 s35 s36 s37 wx => ∃ i : Nat, i ≤ pl.length ∧ g = pl.length - i ∧ s24 = .int .i64 i ∧ s4 = .int .u64 ((sumN S (pl.take i) : Nat) : Int) ∧ sumN S (pl.take i) < 18446744073709551616 ∧ wa = wx)
      case atStart => exact ⟨0, Nat.zero_le _, rfl, rfl, by rw [List.take_zero, sumN_nil], by rw [List.take_zero, sumN_nil]; exact hS, rfl⟩
      case round =>
        obtain ⟨i, hil, rfl, rfl, rfl, hSi, rfl⟩ := hrel
        obtain ⟨X, hX⟩ : ∃ X, X = sumN S (pl.take i) := ⟨_, rfl⟩
        rw [← hX] at hSi ⊢
        by_cases hd : i < pl.length
        · have hdi : (i : Int) < (pl.length : Int) := by omega
          have i0 : (0 : Int) ≤ (i : Int) := by omega
          have HD := Lib.hid hd
          obtain ⟨g, off, rfl, c0⟩ := HC.out wa KA.out i hd
          obtain ⟨y, hy⟩ : ∃ y, y = pl.getD i 0 := ⟨_, rfl⟩
          rw [← hy] at c0
          have hst := HST.out i hd
          rw [← hX, ← hy] at hst
          have hle := HLE.out (i + 1)
          rw [hst] at hle
          have hyb : y < 18446744073709551616 := by rw [hy]; exact getD_u64 hpb i
          have hadd := add64_run X y
          by_cases hov : X + y < 18446744073709551616
          · have m1 : (X + y) % 18446744073709551616 = X + y := Nat.mod_eq_of_lt hov
            have m2 : (X + y) / 18446744073709551616 = 0 := Nat.div_eq_of_lt hov
            rw [m1, m2] at hadd
            obtain ⟨Y, hY⟩ : ∃ Y, Y = X + y := ⟨_, rfl⟩
            rw [← hY] at hadd hst hov
            have HS2 := Lib.hid hst
            have HOV := Lib.hid hov
            clear hY hst hX hy hd hle hyb m1 m2 hov hSi
            go_wp2
            go_roundg (pl.length - (i + 1))
            case measure => have := HD.out; omega
            case rel => exact ⟨i + 1, HD.out, rfl, by go_num, by rw [HS2.out], by rw [HS2.out]; exact HOV.out, rfl⟩
          · have m2 : (X + y) / 18446744073709551616 = 1 := by omega
            rw [m2] at hadd
            obtain ⟨Y, hY⟩ : ∃ Y, Y = (X + y) % 18446744073709551616 := ⟨_, rfl⟩
            rw [← hY] at hadd
            have HBIG := Lib.hid (show 18446744073709551616 ≤ T by omega)
            clear hY hst hX hy hd hle hyb m2 hov hSi
            go_wp2
            go_ret2
            exact ⟨HBAD.out (by have h1 := HBIG.out; have h2 := HTT.out; rw [HSS.out] at h2; have := HT2.out; omega), KA.out⟩
        · obtain rfl : i = pl.length := by omega
          rw [List.take_length, ← HTT.out] at hX
          have HXT := Lib.hid hX
          have HSI := Lib.hid hSi
          clear hd hX hSi
          go_wp2
          go_roundg 1
          case measure => omega
          case rel => exact ⟨1, X, by omega, rfl, rfl, rfl, HSI.out, .inr (.inl ⟨rfl, by rw [HXT.out, HTT.out, HSS.out]⟩), KA.out⟩
    · have HSS := Lib.hid hSS
      clear hSS hk2
      have hcell := fun w' (h : Kept (fun _ => False) w w') i (hi : i < nl.length) => (HA.out.n.kept h (fun _ _ x => x)).elem (uvals_get hi)
      have HC := Lib.hid hcell
      obtain ⟨T, hT⟩ : ∃ T, T = sumN S nl := ⟨_, rfl⟩
      have hstep := fun i (hi : i < nl.length) => sumN_take S nl i hi
      have hle := fun i => sumN_le S nl i
      rw [← hT] at hle
      have HST := Lib.hid hstep
      have HLE := Lib.hid hle
      have HTT := Lib.hid hT
      have ix : ∀ w, (Instr.index 118 (.agg #[.int .i64 po, .slice ao pl.length c, .int .i64 no, .slice bo nl.length d]) (.int .i64 1)).run Tryd.prog w = .ok (.agg #[.int .i64 no, .slice bo nl.length d]) w := fun _ => by kernel_rfl
      clear hcell hstep hle hT
      go_wp2
      obtain ⟨wa, hwa⟩ : ∃ wa, wa = wr.alloc (.cells #[.int .i64 no, .slice bo nl.length d] 60) := ⟨_, rfl⟩
      have KA := Lib.hid (show Kept (fun _ => False) w wa from by rw [hwa]; exact HK.out.alloc _)
      rw [← hwa]
      clear hwa
      go_loopg [4, 8, 9, 10, 24, 25, 26, 27, 28, 29, 30, 31, 32, 33, 34, 35, 36, 37] nl.length (fun g s4 s8 s9 s10 s24 s25 s26 s27 s28 s29 s30 s31 s32 s33 s34 s35 s36 s37 wx => ∃ i : Nat, i ≤ nl.length ∧ g = nl.length - i ∧ s24 = .int .i64 i ∧ s4 = .int .u64 ((sumN S (nl.take i) : Nat) : Int) ∧ sumN S (nl.take i) < 18446744073709551616 ∧ wa = wx)
      case atStart => exact ⟨0, Nat.zero_le _, rfl, rfl, by rw [List.take_zero, sumN_nil], by rw [List.take_zero, sumN_nil]; exact hS, rfl⟩
      case round =>
        obtain ⟨i, hil, rfl, rfl, rfl, hSi, rfl⟩ := hrel
        obtain ⟨X, hX⟩ : ∃ X, X = sumN S (nl.take i) := ⟨_, rfl⟩
        rw [← hX] at hSi ⊢
        by_cases hd : i < nl.length
        · have hdi : (i : Int) < (nl.length : Int) := by omega
          have i0 : (0 : Int) ≤ (i : Int) := by omega
          have HD := Lib.hid hd
          obtain ⟨g, off, rfl, c0⟩ := HC.out wa KA.out i hd
          obtain ⟨y, hy⟩ : ∃ y, y = nl.getD i 0 := ⟨_, rfl⟩
          rw [← hy] at c0
          have hst := HST.out i hd
          rw [← hX, ← hy] at hst
          have hle := HLE.out (i + 1)
          rw [hst] at hle
          have hyb : y < 18446744073709551616 := by rw [hy]; exact getD_u64 hnb i
          have hadd := add64_run X y
          by_cases hov : X + y < 18446744073709551616
          · have m1 : (X + y) % 18446744073709551616 = X + y := Nat.mod_eq_of_lt hov
            have m2 : (X + y) / 18446744073709551616 = 0 := Nat.div_eq_of_lt hov
            rw [m1, m2] at hadd
            obtain ⟨Y, hY⟩ : ∃ Y, Y = X + y := ⟨_, rfl⟩
            rw [← hY] at hadd hst hov
            have HS2 := Lib.hid hst
            have HOV := Lib.hid hov
            clear hY hst hX hy hd hle hyb m1 m2 hov hSi
            go_wp2
            go_roundg (nl.length - (i + 1))
            case measure => have := HD.out; omega
            case rel => exact ⟨i + 1, HD.out, rfl, by go_num, by rw [HS2.out], by rw [HS2.out]; exact HOV.out, rfl⟩
          · have m2 : (X + y) / 18446744073709551616 = 1 := by omega
            rw [m2] at hadd
            obtain ⟨Y, hY⟩ : ∃ Y, Y = (X + y) % 18446744073709551616 := ⟨_, rfl⟩
            rw [← hY] at hadd
            have HBIG := Lib.hid (show 18446744073709551616 ≤ T by omega)
            clear hY hst hX hy hd hle hyb m2 hov hSi
            go_wp2
            go_ret2
            exact ⟨HBAD.out (by have h1 := HBIG.out; have h2 := HTT.out; rw [HSS.out, ← HTOT.out] at h2; omega), KA.out⟩
        · obtain rfl : i = nl.length := by omega
          rw [List.take_length, ← HTT.out] at hX
          have HXT := Lib.hid hX
          have HSI := Lib.hid hSi
          clear hd hX hSi
          go_wp2
          go_roundg 0
          case measure => omega
          case rel => exact ⟨2, X, by omega, rfl, rfl, rfl, HSI.out, .inr (.inr ⟨rfl, by rw [HXT.out, HTT.out, HSS.out, HTOT.out]⟩), KA.out⟩
    · have HSS := Lib.hid hSS
      clear hSS hk2
      have HS := Lib.hid hS
      clear hS
      go_wp2
      go_ret2
      exact ⟨HGOOD.out S HSS.out HS.out, HK.out⟩
end Go.Proofs.YtjpnfadmblmjbaaDoor
