/- Layer 18: a disk in memory; isName, change, Down, Used, Calls, Fail, Crash, has, changeOf. -/
import Derived.Test.YtficodklidaheaaDoorS0
import Derived.Test.YtficodklidaheaaDoorSN
import Derived.Test.YtficodklidaheaaDoorGR
import Derived.Laws.Rows
namespace Go.Proofs.YtficodklidaheaaDoor
open Go.RowKit
attribute [local go_sem ↓] Go.wp_at_zero Go.wp_at_succ

/-- A block of cells. -/
def BoxAt (w : World) (q : Nat) (T : TypeId) (cs : Array Value) : Prop := w.heap[q]? = some (.cells cs T (0, 0))
section
variable {w w' : World} {q : Nat} {T : TypeId} {cs : Array Value}
theorem BoxAt.cell (h : BoxAt w q T cs) {i : Nat} {u : Value} (hi : cs[i]? = some u) : w.cell? ⟨q, i, none⟩ = some u := (cell_of_row _ _ i _ _ _ h).trans hi
theorem BoxAt.fz (h : BoxAt w q T cs) (i : Nat) : w.frozen? ⟨q, i, none⟩ = false := by unfold BoxAt at h; simp [World.frozen?, h]
theorem BoxAt.lt (h : BoxAt w q T cs) : q < w.heap.size := (Array.getElem?_eq_some_iff.1 h).1
theorem BoxAt.set (h : BoxAt w q T cs) (i : Nat) (u : Value) : BoxAt (w.setCell ⟨q, i, none⟩ u) q T (cs.set! i u) := by
  unfold BoxAt at *
  simp [World.setCell, Array.getElem?_modify, h]
theorem BoxAt.kept {S : Nat → Prop} (h : BoxAt w q T cs) (k : Kept S w w') (hn : ¬ S q) : BoxAt w' q T cs := k.same h hn
theorem BoxAt.new (w : World) (T : TypeId) (cs : Array Value) : BoxAt (w.alloc (.cells cs T)) w.heap.size T cs := heap_alloc_new w _
theorem kept_set (w : World) (q i : Nat) (u : Value) : Kept (fun k => k = q) w (w.setCell ⟨q, i, none⟩ u) := (Kept.refl (fun k => k = q) w).setCell (p := ⟨q, i, none⟩) (fun _ => rfl) u
end

/-- A file in memory. -/
structure Fi where
  a : Option Addr
  c : Nat
  b : List Nat
  s : Nat
def Fi.v (f : Fi) : Value := .slice f.a f.b.length f.c
def Fi.val (f : Fi) : Value := .agg #[.slice f.a f.b.length f.c, .int .i64 (f.s : Int)]
def Fi.t (f : Fi) : PF := ⟨f.b, f.s⟩
/-- Where a file's bytes lie: in a block of its own, or nowhere. -/
def OwnB (base : Nat) (w : World) (f : Fi) : Prop :=
  (f.a = none ∧ f.b = [] ∧ f.c = 0) ∨ ∃ g cur, f.a = some ⟨g, 0, none⟩ ∧ base ≤ g ∧ w.heap[g]? = some (.cells cur 5 (0, 0)) ∧ f.b.length ≤ f.c ∧ f.c ≤ cur.size ∧ f.c ≤ maxLen ∧ cur.toList.take f.b.length = byV f.b
section
variable {base : Nat} {w w' : World} {f : Fi}
theorem OwnB.kept {S : Nat → Prop} (h : OwnB base w f) (k : Kept S w w') (hn : ∀ j, f.v.ownBlock = some j → ¬ S j) : OwnB base w' f := by
  rcases h with h | ⟨g, cur, h1, h2, h3, h4⟩
  · exact .inl h
  · exact .inr ⟨g, cur, h1, h2, k.same h3 (hn g (by unfold Fi.v; rw [h1]; rfl)), h4⟩
theorem OwnB.block (h : OwnB base w f) {j : Nat} (hj : f.v.ownBlock = some j) : ∃ cur, w.heap[j]? = some (.cells cur 5 (0, 0)) ∧ base ≤ j := by
  rcases h with ⟨h, _⟩ | ⟨g, cur, h1, h2, h3, _⟩
  · unfold Fi.v at hj; rw [h] at hj; cases hj
  · unfold Fi.v at hj
    rw [h1] at hj
    injection hj with hj
    subst hj
    exact ⟨cur, h3, h2⟩
theorem OwnB.cap (h : OwnB base w f) : f.b.length ≤ f.c ∧ f.c ≤ maxLen := by
  rcases h with ⟨_, h1, h2⟩ | ⟨g, cur, _, _, _, h4, _, h5, _⟩
  · rw [h1, h2]; exact ⟨Nat.le_refl _, Nat.zero_le _⟩
  · exact ⟨h4, h5⟩
theorem OwnB.at_ (h : OwnB base w f) : SlAt w f.v (byV f.b) := by
  rcases h with ⟨h1, h2, h3⟩ | ⟨g, cur, h1, h2, h3, h4, h5, h6, h7⟩
  · unfold Fi.v
    rw [h1, h2, h3]
    exact SlAt.ofOwn (World.ownsRow_nil w 0 5 1)
  · refine ⟨f.a, f.c, ?_, fun e => ?_, fun a' e j u hu => ?_⟩
    · unfold Fi.v; rw [byV_length]
    · rw [h1] at e; cases e
    rw [h1] at e
    injection e with e
    subst e
    rw [addr_add0, cell_of_row _ _ j _ _ _ h3]
    rw [← h7, List.getElem?_take] at hu
    split at hu
    · rw [← Array.getElem?_toList]; exact hu
    · cases hu
end
/-- The disk's cells. -/
def boxD (mb : Nat) (D : DA) : Array Value := #[.map (some mb), .int .i64 D.cap, .int .i64 (usedL D.L : Int), .bool D.down, .int .i64 D.calls, .int .i64 D.failIn, .int .i64 D.failBy, .int .i64 D.crashIn]
def foot (db mb : Nat) (L : List (ByteArray × Fi)) (k : Nat) : Prop := k = db ∨ k = mb ∨ ∃ p ∈ L, p.2.v.ownBlock = some k
/-- A disk in memory. -/
structure DK (base : Nat) (w : World) (db mb : Nat) (L : List (ByteArray × Fi)) (D : DA) : Prop where
  box : BoxAt w db 111 (boxD mb D)
  map : MapIs w mb (mapM Fi.val L)
  perm : (mapM Fi.t L).Perm D.L
  data : ∀ p ∈ L, OwnB base w p.2
  sep : ∀ p ∈ L, ∀ q ∈ L, p.1 ≠ q.1 → ∀ k, p.2.v.ownBlock = some k → q.2.v.ownBlock ≠ some k
  base : base ≤ db ∧ base ≤ mb
  ok : DOk D
section
variable {base : Nat} {w w' : World} {db mb : Nat} {L : List (ByteArray × Fi)} {D : DA}
theorem DK.pair (h : DK base w db mb L D) : L.Pairwise fun p q => p.1 ≠ q.1 := by
  have := h.map.pair
  unfold mapM at this
  rw [List.pairwise_map] at this
  exact this
theorem DK.get (h : DK base w db mb L D) (s : ByteArray) : (getM L s).map Fi.t = getM D.L s := by
  rw [← getM_map, get_of_perm (mapM_pair _ h.pair) h.perm]
theorem DK.len (h : DK base w db mb L D) : L.length = D.L.length := by
  have := h.perm.length_eq
  simpa [mapM] using this
theorem DK.kept {S : Nat → Prop} (h : DK base w db mb L D) (k : Kept S w w') (hn : ∀ j, foot db mb L j → ¬ S j) : DK base w' db mb L D :=
  ⟨h.box.kept k (hn db (.inl rfl)), h.map.kept k (hn mb (.inr (.inl rfl))), h.perm, fun p hp => (h.data p hp).kept k (fun j e => hn j (.inr (.inr ⟨p, hp, e⟩))), h.sep, h.base, h.ok⟩
theorem DK.lt (h : DK base w db mb L D) {k : Nat} (hk : foot db mb L k) : k < w.heap.size ∧ base ≤ k := by
  rcases hk with rfl | rfl | ⟨p, hp, e⟩
  · exact ⟨h.box.lt, h.base.1⟩
  · exact ⟨h.map.lt, h.base.2⟩
  · obtain ⟨cur, h1, h2⟩ := (h.data p hp).block e
    exact ⟨(Array.getElem?_eq_some_iff.1 h1).1, h2⟩
theorem DK.c (h : DK base w db mb L D) : w.cell? ⟨db, 0, none⟩ = some (.map (some mb)) ∧ w.cell? ⟨db, 1, none⟩ = some (.int .i64 D.cap) ∧ w.cell? ⟨db, 2, none⟩ = some (.int .i64 (usedL D.L : Int)) ∧ w.cell? ⟨db, 3, none⟩ = some (.bool D.down) ∧
    w.cell? ⟨db, 4, none⟩ = some (.int .i64 D.calls) ∧ w.cell? ⟨db, 5, none⟩ = some (.int .i64 D.failIn) ∧ w.cell? ⟨db, 6, none⟩ = some (.int .i64 D.failBy) ∧ w.cell? ⟨db, 7, none⟩ = some (.int .i64 D.crashIn) :=
  ⟨h.box.cell rfl, h.box.cell rfl, h.box.cell rfl, h.box.cell rfl, h.box.cell rfl, h.box.cell rfl, h.box.cell rfl, h.box.cell rfl⟩
theorem DK.ne (h : DK base w db mb L D) : db ≠ mb := h.map.notCells h.box
theorem DK.cap (h : DK base w db mb L D) : I64 D.cap ∧ I64 D.failIn ∧ I64 D.crashIn ∧ I64 (usedL D.L : Int) := by
  have h1 := h.ok.capR
  have h2 := h.ok.failR
  have h3 := h.ok.crashR
  have h4 := h.ok.used
  unfold I64
  omega
/-- Only the disk's own cells were written. -/
theorem DK.turned (h : DK base w db mb L D) {w' : World} {D' : DA} (hb : BoxAt w' db 111 (boxD mb D')) (k : Kept (fun k => k = db) w w') (hL : D'.L = D.L) (ok : DOk D') : DK base w' db mb L D' :=
  ⟨hb, h.map.kept k (fun e => h.ne e.symm), by rw [hL]; exact h.perm, fun p hp => (h.data p hp).kept k (fun j e x => by
    obtain ⟨cur, h1, _⟩ := (h.data p hp).block e
    have hb := h.box
    unfold BoxAt at hb
    rw [x, hb] at h1
    injection h1 with h1
    injection h1 with _ h1
    exact absurd h1 (by decide)), h.sep, h.base, ok⟩
end

set_option maxHeartbeats 1000000 in
theorem dDown_any (base db mb : Nat) (L : List (ByteArray × Fi)) (D : DA) (w : World) (h : DK base w db mb L D) :
    Calls Tryd.prog 33 #[.pointer (some ⟨db, 0, none⟩)] w fun e w' => e = .returned (.bool D.down) ∧ w = w' := by
  have c3 := h.c.2.2.2.1
  clear h
  go_enter Tryd.func33, Tryd.ntmps33
  go_wp2
  go_ret
  exact ⟨rfl, rfl⟩
set_option maxHeartbeats 1000000 in
theorem dCalls_any (base db mb : Nat) (L : List (ByteArray × Fi)) (D : DA) (w : World) (h : DK base w db mb L D) :
    Calls Tryd.prog 80 #[.pointer (some ⟨db, 0, none⟩)] w fun e w' => e = .returned (.int .i64 D.calls) ∧ w = w' := by
  have c3 := h.c.2.2.2.2.1
  clear h
  go_enter Tryd.func80, Tryd.ntmps80
  go_wp2
  go_ret
  exact ⟨rfl, rfl⟩
/-- What Used answers. -/
def usedA (D : DA) : Int := if D.down = true then 0 else (usedL D.L : Int)
set_option maxHeartbeats 1000000 in
theorem dUsed_any (base db mb : Nat) (L : List (ByteArray × Fi)) (D : DA) (w : World) (h : DK base w db mb L D) :
    Calls Tryd.prog 63 #[.pointer (some ⟨db, 0, none⟩)] w fun e w' => e = .returned (.int .i64 (usedA D)) ∧ w = w' := by
  have c2 := h.c.2.2.1
  have c3 := h.c.2.2.2.1
  clear h
  unfold usedA
  obtain ⟨u, hu⟩ : ∃ u, u = (usedL D.L : Int) := ⟨_, rfl⟩
  rw [← hu] at c2 ⊢
  clear hu
  cases hd : D.down
  · rw [hd] at c3
    clear hd
    go_enter Tryd.func63, Tryd.ntmps63
    go_wp2
    go_ret
    exact ⟨rfl, rfl⟩
  · rw [hd] at c3
    clear hd
    go_enter Tryd.func63, Tryd.ntmps63
    go_wp2
    go_ret
    exact ⟨rfl, rfl⟩
end Go.Proofs.YtficodklidaheaaDoor
