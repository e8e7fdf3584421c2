/- Texts put together: S1, S3. -/
import Derived.Test.YtficodklidaheaaDoorZz4
import Derived.Test.YtficodklidaheaaDoorZz2
import Derived.Laws.Rows
/- Layer 18: a disk in memory; isName, change, Down, Used, Calls, Fail, Crash, has, changeOf. -/
namespace Go.Proofs.YtficodklidaheaaDoor
open Go.RowKit
attribute [local go_sem ↓] Go.wp_at_zero Go.wp_at_succ

/-- A block of cells. -/
def BoxAt (w : World) (q : Nat) (T : TypeId) (cs : Array Value) : Prop := w.heap[q]? = some (.cells cs T (0, 0))
section
variable {w w' : World} {q : Nat} {T : TypeId} {cs : Array Value}
theorem BoxAt.cell (h : BoxAt w q T cs) {i : Nat} {u : Value} (hi : cs[i]? = some u) : w.cell? ⟨q, i, none⟩ = some u := (cell_of_row _ _ i _ _ _ h).trans hi
theorem BoxAt.fz (h : BoxAt w q T cs) (i : Nat) : w.frozen? ⟨q, i, none⟩ = false := by unfold BoxAt at h; simp [World.frozen?, h]
theorem BoxAt.lt (h : BoxAt w q T cs) : q < w.heap.size := (Array.getElem?_eq_some_iff.1 h).1
theorem BoxAt.set (h : BoxAt w q T cs) (i : Nat) (u : Value) : BoxAt (w.setCell ⟨q, i, none⟩ u) q T (cs.set! i u) := by
  unfold BoxAt at *
  simp [World.setCell, Array.getElem?_modify, h]
theorem BoxAt.kept {S : Nat → Prop} (h : BoxAt w q T cs) (k : Kept S w w') (hn : ¬ S q) : BoxAt w' q T cs := k.same h hn
theorem BoxAt.new (w : World) (T : TypeId) (cs : Array Value) : BoxAt (w.alloc (.cells cs T)) w.heap.size T cs := heap_alloc_new w _
theorem kept_set (w : World) (q i : Nat) (u : Value) : Kept (fun k => k = q) w (w.setCell ⟨q, i, none⟩ u) := (Kept.refl (fun k => k = q) w).setCell (p := ⟨q, i, none⟩) (fun _ => rfl) u
end

/-- A file in memory. -/
structure Fi where
  a : Option Addr
  c : Nat
  b : List Nat
  s : Nat
def Fi.v (f : Fi) : Value := .slice f.a f.b.length f.c
def Fi.val (f : Fi) : Value := .agg #[.slice f.a f.b.length f.c, .int .i64 (f.s : Int)]
def Fi.t (f : Fi) : PF := ⟨f.b, f.s⟩
/-- Where a file's bytes lie: in a block of its own, or nowhere. -/
def OwnB (base : Nat) (w : World) (f : Fi) : Prop :=
  (f.a = none ∧ f.b = [] ∧ f.c = 0) ∨ ∃ g cur, f.a = some ⟨g, 0, none⟩ ∧ base ≤ g ∧ w.heap[g]? = some (.cells cur 5 (0, 0)) ∧ f.b.length ≤ f.c ∧ f.c ≤ cur.size ∧ f.c ≤ maxLen ∧ cur.toList.take f.b.length = byV f.b
section
variable {base : Nat} {w w' : World} {f : Fi}
theorem OwnB.kept {S : Nat → Prop} (h : OwnB base w f) (k : Kept S w w') (hn : ∀ j, f.v.ownBlock = some j → ¬ S j) : OwnB base w' f := by
  rcases h with h | ⟨g, cur, h1, h2, h3, h4⟩
  · exact .inl h
  · exact .inr ⟨g, cur, h1, h2, k.same h3 (hn g (by unfold Fi.v; rw [h1]; rfl)), h4⟩
theorem OwnB.block (h : OwnB base w f) {j : Nat} (hj : f.v.ownBlock = some j) : ∃ cur, w.heap[j]? = some (.cells cur 5 (0, 0)) ∧ base ≤ j := by
  rcases h with ⟨h, _⟩ | ⟨g, cur, h1, h2, h3, _⟩
  · unfold Fi.v at hj; rw [h] at hj; cases hj
  · unfold Fi.v at hj
    rw [h1] at hj
    injection hj with hj
    subst hj
    exact ⟨cur, h3, h2⟩
theorem OwnB.cap (h : OwnB base w f) : f.b.length ≤ f.c ∧ f.c ≤ maxLen := by
  rcases h with ⟨_, h1, h2⟩ | ⟨g, cur, _, _, _, h4, _, h5, _⟩
  · rw [h1, h2]; exact ⟨Nat.le_refl _, Nat.zero_le _⟩
  · exact ⟨h4, h5⟩
theorem OwnB.at_ (h : OwnB base w f) : SlAt w f.v (byV f.b) := by
  rcases h with ⟨h1, h2, h3⟩ | ⟨g, cur, h1, h2, h3, h4, h5, h6, h7⟩
  · unfold Fi.v
    rw [h1, h2, h3]
    exact SlAt.ofOwn (World.ownsRow_nil w 0 5 1)
  · refine ⟨f.a, f.c, ?_, fun e => ?_, fun a' e j u hu => ?_⟩
    · unfold Fi.v; rw [byV_length]
    · rw [h1] at e; cases e
    rw [h1] at e
    injection e with e
    subst e
    rw [addr_add0, cell_of_row _ _ j _ _ _ h3]
    rw [← h7, List.getElem?_take] at hu
    split at hu
    · rw [← Array.getElem?_toList]; exact hu
    · cases hu
end
/-- The disk's cells. -/
def boxD (mb : Nat) (D : DA) : Array Value := #[.map (some mb), .int .i64 D.cap, .int .i64 (usedL D.L : Int), .bool D.down, .int .i64 D.calls, .int .i64 D.failIn, .int .i64 D.failBy, .int .i64 D.crashIn]
def foot (db mb : Nat) (L : List (ByteArray × Fi)) (k : Nat) : Prop := k = db ∨ k = mb ∨ ∃ p ∈ L, p.2.v.ownBlock = some k
/-- A disk in memory. -/
structure DK (base : Nat) (w : World) (db mb : Nat) (L : List (ByteArray × Fi)) (D : DA) : Prop where
  box : BoxAt w db 111 (boxD mb D)
  map : MapIs w mb (mapM Fi.val L)
  perm : (mapM Fi.t L).Perm D.L
  data : ∀ p ∈ L, OwnB base w p.2
  sep : ∀ p ∈ L, ∀ q ∈ L, p.1 ≠ q.1 → ∀ k, p.2.v.ownBlock = some k → q.2.v.ownBlock ≠ some k
  base : base ≤ db ∧ base ≤ mb
  ok : DOk D
section
variable {base : Nat} {w w' : World} {db mb : Nat} {L : List (ByteArray × Fi)} {D : DA}
theorem DK.pair (h : DK base w db mb L D) : L.Pairwise fun p q => p.1 ≠ q.1 := by
  have := h.map.pair
  unfold mapM at this
  rw [List.pairwise_map] at this
  exact this
theorem DK.get (h : DK base w db mb L D) (s : ByteArray) : (getM L s).map Fi.t = getM D.L s := by
  rw [← getM_map, get_of_perm (mapM_pair _ h.pair) h.perm]
theorem DK.len (h : DK base w db mb L D) : L.length = D.L.length := by
  have := h.perm.length_eq
  simpa [mapM] using this
theorem DK.kept {S : Nat → Prop} (h : DK base w db mb L D) (k : Kept S w w') (hn : ∀ j, foot db mb L j → ¬ S j) : DK base w' db mb L D :=
  ⟨h.box.kept k (hn db (.inl rfl)), h.map.kept k (hn mb (.inr (.inl rfl))), h.perm, fun p hp => (h.data p hp).kept k (fun j e => hn j (.inr (.inr ⟨p, hp, e⟩))), h.sep, h.base, h.ok⟩
theorem DK.lt (h : DK base w db mb L D) {k : Nat} (hk : foot db mb L k) : k < w.heap.size ∧ base ≤ k := by
  rcases hk with rfl | rfl | ⟨p, hp, e⟩
  · exact ⟨h.box.lt, h.base.1⟩
  · exact ⟨h.map.lt, h.base.2⟩
  · obtain ⟨cur, h1, h2⟩ := (h.data p hp).block e
    exact ⟨(Array.getElem?_eq_some_iff.1 h1).1, h2⟩
theorem DK.c (h : DK base w db mb L D) : w.cell? ⟨db, 0, none⟩ = some (.map (some mb)) ∧ w.cell? ⟨db, 1, none⟩ = some (.int .i64 D.cap) ∧ w.cell? ⟨db, 2, none⟩ = some (.int .i64 (usedL D.L : Int)) ∧ w.cell? ⟨db, 3, none⟩ = some (.bool D.down) ∧
    w.cell? ⟨db, 4, none⟩ = some (.int .i64 D.calls) ∧ w.cell? ⟨db, 5, none⟩ = some (.int .i64 D.failIn) ∧ w.cell? ⟨db, 6, none⟩ = some (.int .i64 D.failBy) ∧ w.cell? ⟨db, 7, none⟩ = some (.int .i64 D.crashIn) :=
  ⟨h.box.cell rfl, h.box.cell rfl, h.box.cell rfl, h.box.cell rfl, h.box.cell rfl, h.box.cell rfl, h.box.cell rfl, h.box.cell rfl⟩
theorem DK.ne (h : DK base w db mb L D) : db ≠ mb := h.map.notCells h.box
theorem DK.cap (h : DK base w db mb L D) : I64 D.cap ∧ I64 D.failIn ∧ I64 D.crashIn ∧ I64 (usedL D.L : Int) := by
  have h1 := h.ok.capR
  have h2 := h.ok.failR
  have h3 := h.ok.crashR
  have h4 := h.ok.used
  unfold I64
  omega
/-- Only the disk's own cells were written. -/
theorem DK.turned (h : DK base w db mb L D) {w' : World} {D' : DA} (hb : BoxAt w' db 111 (boxD mb D')) (k : Kept (fun k => k = db) w w') (hL : D'.L = D.L) (ok : DOk D') : DK base w' db mb L D' :=
  ⟨hb, h.map.kept k (fun e => h.ne e.symm), by rw [hL]; exact h.perm, fun p hp => (h.data p hp).kept k (fun j e x => by
    obtain ⟨cur, h1, _⟩ := (h.data p hp).block e
    have hb := h.box
    unfold BoxAt at hb
    rw [x, hb] at h1
    injection h1 with h1
    injection h1 with _ h1
    exact absurd h1 (by decide)), h.sep, h.base, ok⟩
end

set_option maxHeartbeats 1000000 in
theorem dDown_any (base db mb : Nat) (L : List (ByteArray × Fi)) (D : DA) (w : World) (h : DK base w db mb L D) :
    Calls Tryd.prog 33 #[.pointer (some ⟨db, 0, none⟩)] w fun e w' => e = .returned (.bool D.down) ∧ w = w' := by
  have c3 := h.c.2.2.2.1
  clear h
  go_enter Tryd.func33, Tryd.ntmps33
  go_wp2
  go_ret
  exact ⟨rfl, rfl⟩
set_option maxHeartbeats 1000000 in
theorem dCalls_any (base db mb : Nat) (L : List (ByteArray × Fi)) (D : DA) (w : World) (h : DK base w db mb L D) :
    Calls Tryd.prog 80 #[.pointer (some ⟨db, 0, none⟩)] w fun e w' => e = .returned (.int .i64 D.calls) ∧ w = w' := by
  have c3 := h.c.2.2.2.2.1
  clear h
  go_enter Tryd.func80, Tryd.ntmps80
  go_wp2
  go_ret
  exact ⟨rfl, rfl⟩
/-- What Used answers. -/
def usedA (D : DA) : Int := if D.down = true then 0 else (usedL D.L : Int)
set_option maxHeartbeats 1000000 in
theorem dUsed_any (base db mb : Nat) (L : List (ByteArray × Fi)) (D : DA) (w : World) (h : DK base w db mb L D) :
    Calls Tryd.prog 63 #[.pointer (some ⟨db, 0, none⟩)] w fun e w' => e = .returned (.int .i64 (usedA D)) ∧ w = w' := by
  have c2 := h.c.2.2.1
  have c3 := h.c.2.2.2.1
  clear h
  unfold usedA
  obtain ⟨u, hu⟩ : ∃ u, u = (usedL D.L : Int) := ⟨_, rfl⟩
  rw [← hu] at c2 ⊢
  clear hu
  cases hd : D.down
  · rw [hd] at c3
    clear hd
    go_enter Tryd.func63, Tryd.ntmps63
    go_wp2
    go_ret
    exact ⟨rfl, rfl⟩
  · rw [hd] at c3
    clear hd
    go_enter Tryd.func63, Tryd.ntmps63
    go_wp2
    go_ret
    exact ⟨rfl, rfl⟩
end Go.Proofs.YtficodklidaheaaDoor
/- Layer 18: which texts are names: isName, the document's Name (written by tools/gen_XS3.py). -/
namespace Go.Proofs.YtficodklidaheaaDoor
open Go.RowKit
attribute [local go_sem ↓] Go.wp_at_zero Go.wp_at_succ

theorem nameB_no {s : ByteArray} (h : ¬ (1 ≤ s.size ∧ s.size ≤ 32)) : nameB s = false := by
  cases e : nameB s
  · rfl
  · exact absurd (nameB_size e) h
theorem nameB_at {s : ByteArray} {i : Nat} (hi : i < s.size) (h : nameC (chr s i) = false) : nameB s = false := by
  cases e : nameB s
  · rfl
  · unfold nameB at e
    simp only [Bool.and_eq_true, List.all_eq_true] at e
    have := e.2 _ (List.mem_of_getElem? (bl_get hi))
    rw [h] at this
    cases this
theorem nameB_yes {s : ByteArray} (h : 1 ≤ s.size ∧ s.size ≤ 32) (ha : ∀ j, j < s.size → nameC (chr s j) = true) : nameB s = true := by
  unfold nameB
  simp only [Bool.and_eq_true, List.all_eq_true, decide_eq_true_eq]
  refine ⟨h, fun x hx => ?_⟩
  obtain ⟨j, hj⟩ := List.mem_iff_getElem?.1 hx
  have hl : j < s.size := by
    have := (List.getElem?_eq_some_iff.1 hj).1
    rwa [bl_length] at this
  rw [bl_get hl] at hj
  injection hj with hj
  rw [← hj]
  exact ha j hl
theorem all_succN {s : ByteArray} {i : Nat} (h : ∀ j, j < i → nameC (chr s j) = true) (hi : nameC (chr s i) = true) : ∀ j, j < i + 1 → nameC (chr s j) = true := fun j hj => by
  by_cases e : j = i
  · rw [e]; exact hi
  · exact h j (by omega)

set_option maxHeartbeats 4000000 in
theorem isName_any (s : ByteArray) (w : World) (hs : s.size ≤ 9223372036854775807) :
    Calls Tryd.prog 64 #[.string s] w fun e w' => e = .returned (.bool (nameB s)) ∧ w = w' := by
  have hS : ∀ i, i < s.size → ∀ w, (Instr.index 9 (.string s) (.int .i64 (i : Int))).run Tryd.prog w = .ok (.int .u8 (chr s i : Int)) w := fun i hi w => run_chr Tryd.underlying9 s i hi w
  by_cases h0 : s.size = 0
  · have HR := Lib.hid (nameB_no (s := s) (by omega))
    have q : ((s.size : Int) == 0) = true := by simp [h0]
    have q' : (s.size == 0) = true := by simp [h0]
    clear hS h0
    go_enter Tryd.func64, Tryd.ntmps64
    go_wp2
    go_ret
    exact ⟨by rw [HR.out]; rfl, rfl⟩
  have q : ((s.size : Int) == 0) = false := by simp [h0]
  have q' : (s.size == 0) = false := by simp [h0]
  by_cases h1 : 32 < s.size
  · have HR := Lib.hid (nameB_no (s := s) (by omega))
    have q1 : (32 : Int) < (s.size : Int) := by omega
    have q2 : decide (32 < s.size) = true := decide_eq_true h1
    clear hS h0
    go_enter Tryd.func64, Tryd.ntmps64
    go_wp2
    go_ret
    exact ⟨by rw [HR.out]; rfl, rfl⟩
  have q1 : ¬ (32 : Int) < (s.size : Int) := by omega
  have q2 : decide (32 < s.size) = false := decide_eq_false h1
  have HS := Lib.hid hS
  have HN := Lib.hid (show 1 ≤ s.size ∧ s.size ≤ 32 from ⟨by omega, by omega⟩)
  obtain ⟨n, hn⟩ : ∃ n, n = s.size := ⟨_, rfl⟩
  have HNN := Lib.hid hn
  clear hS h0 h1
  go_enter Tryd.func64, Tryd.ntmps64
  go_wp2
  rw [← hn]
  clear hs q q' q1 q2 hn
  go_loopg [15] n (fun g s0 wr => ∃ i : Nat, i ≤ n ∧ g = n - i ∧ s0 = .int .i64 i ∧ w = wr ∧ ∀ j, j < i → nameC (chr s j) = true)
  case atStart => exact ⟨0, Nat.zero_le _, rfl, rfl, rfl, fun j hj => by omega⟩
  case round =>
    obtain ⟨i, hin, rfl, rfl, rfl, ha⟩ := hrel
    have HA := Lib.hid ha
    clear ha
    by_cases hd : i < n
    · have hdi : (i : Int) < (n : Int) := by omega
      skip
      have HD := Lib.hid hd
      have wi : IntKind.i64.wrap ((i : Int) + 1) = ((i + 1 : Nat) : Int) := by rw [IntWalk.i64_in _ ⟨by omega, by have := HN.out; have := HNN.out; omega⟩]; omega
      have hix := HS.out i (by have := HNN.out; omega)
      have hlt := chr_lt s i
      obtain ⟨c, hc⟩ : ∃ c, c = chr s i := ⟨_, rfl⟩
      rw [← hc] at hix hlt
      have HC := Lib.hid hc
      clear hd hin hc
      have hcase : (c < 45) ∨ (c = 45) ∨ (c = 46) ∨ (c = 47) ∨ (48 ≤ c ∧ c ≤ 57) ∨ (58 ≤ c ∧ c ≤ 96) ∨ (97 ≤ c ∧ c ≤ 122) ∨ (123 ≤ c) := by omega
      rcases hcase with c1 | rfl | rfl | rfl | ⟨c1, c2⟩ | ⟨c1, c2⟩ | ⟨c1, c2⟩ | c1
      · have HR := Lib.hid (nameB_at (s := s) (i := i) (by have := HNN.out; have := HD.out; omega) (by rw [← HC.out]; unfold nameC; simp; omega))
        have g1 : (c : Int) < 97 := by omega
        have g1d : decide (c < 97) = true := decide_eq_true (by omega)
        have g2 : ¬ (122 : Int) < (c : Int) := by omega
        have g2d : decide (122 < c) = false := decide_eq_false (by omega)
        have g3 : (c : Int) < 48 := by omega
        have g3d : decide (c < 48) = true := decide_eq_true (by omega)
        have g4 : ¬ (57 : Int) < (c : Int) := by omega
        have g4d : decide (57 < c) = false := decide_eq_false (by omega)
        have g5 : ((c : Int) != 46) = true := bneT (by omega)
        have g5d : (c != 46) = true := by simp; omega
        have g6 : ((c : Int) != 45) = true := bneT (by omega)
        have g6d : (c != 45) = true := by simp; omega
        clear c1
        go_wp2
        go_ret
        exact ⟨by rw [HR.out]; rfl, rfl⟩
      · have HOK := Lib.hid (show nameC (chr s i) = true from by rw [← HC.out]; rfl)
        go_wp2
        go_roundg (n - (i + 1))
        case measure => have := HD.out; omega
        case rel => exact ⟨i + 1, HD.out, rfl, rfl, rfl, all_succN HA.out HOK.out⟩
      · have HOK := Lib.hid (show nameC (chr s i) = true from by rw [← HC.out]; rfl)
        go_wp2
        go_roundg (n - (i + 1))
        case measure => have := HD.out; omega
        case rel => exact ⟨i + 1, HD.out, rfl, rfl, rfl, all_succN HA.out HOK.out⟩
      · have HR := Lib.hid (nameB_at (s := s) (i := i) (by have := HNN.out; have := HD.out; omega) (by rw [← HC.out]; rfl))
        go_wp2
        go_ret
        exact ⟨by rw [HR.out]; rfl, rfl⟩
      · have HOK := Lib.hid (show nameC (chr s i) = true from by rw [← HC.out]; unfold nameC; simp; omega)
        have g1 : (c : Int) < 97 := by omega
        have g1d : decide (c < 97) = true := decide_eq_true (by omega)
        have g2 : ¬ (122 : Int) < (c : Int) := by omega
        have g2d : decide (122 < c) = false := decide_eq_false (by omega)
        have g3 : ¬ (c : Int) < 48 := by omega
        have g3d : decide (c < 48) = false := decide_eq_false (by omega)
        have g4 : ¬ (57 : Int) < (c : Int) := by omega
        have g4d : decide (57 < c) = false := decide_eq_false (by omega)
        have g5 : ((c : Int) != 46) = true := bneT (by omega)
        have g5d : (c != 46) = true := by simp; omega
        have g6 : ((c : Int) != 45) = true := bneT (by omega)
        have g6d : (c != 45) = true := by simp; omega
        clear c1 c2
        go_wp2
        go_roundg (n - (i + 1))
        case measure => have := HD.out; omega
        case rel => exact ⟨i + 1, HD.out, rfl, rfl, rfl, all_succN HA.out HOK.out⟩
      · have HR := Lib.hid (nameB_at (s := s) (i := i) (by have := HNN.out; have := HD.out; omega) (by rw [← HC.out]; unfold nameC; simp; omega))
        have g1 : (c : Int) < 97 := by omega
        have g1d : decide (c < 97) = true := decide_eq_true (by omega)
        have g2 : ¬ (122 : Int) < (c : Int) := by omega
        have g2d : decide (122 < c) = false := decide_eq_false (by omega)
        have g3 : ¬ (c : Int) < 48 := by omega
        have g3d : decide (c < 48) = false := decide_eq_false (by omega)
        have g4 : (57 : Int) < (c : Int) := by omega
        have g4d : decide (57 < c) = true := decide_eq_true (by omega)
        have g5 : ((c : Int) != 46) = true := bneT (by omega)
        have g5d : (c != 46) = true := by simp; omega
        have g6 : ((c : Int) != 45) = true := bneT (by omega)
        have g6d : (c != 45) = true := by simp; omega
        clear c1 c2
        go_wp2
        go_ret
        exact ⟨by rw [HR.out]; rfl, rfl⟩
      · have HOK := Lib.hid (show nameC (chr s i) = true from by rw [← HC.out]; unfold nameC; simp; omega)
        have g1 : ¬ (c : Int) < 97 := by omega
        have g1d : decide (c < 97) = false := decide_eq_false (by omega)
        have g2 : ¬ (122 : Int) < (c : Int) := by omega
        have g2d : decide (122 < c) = false := decide_eq_false (by omega)
        have g3 : ¬ (c : Int) < 48 := by omega
        have g3d : decide (c < 48) = false := decide_eq_false (by omega)
        have g4 : (57 : Int) < (c : Int) := by omega
        have g4d : decide (57 < c) = true := decide_eq_true (by omega)
        have g5 : ((c : Int) != 46) = true := bneT (by omega)
        have g5d : (c != 46) = true := by simp; omega
        have g6 : ((c : Int) != 45) = true := bneT (by omega)
        have g6d : (c != 45) = true := by simp; omega
        clear c1 c2
        go_wp2
        go_roundg (n - (i + 1))
        case measure => have := HD.out; omega
        case rel => exact ⟨i + 1, HD.out, rfl, rfl, rfl, all_succN HA.out HOK.out⟩
      · have HR := Lib.hid (nameB_at (s := s) (i := i) (by have := HNN.out; have := HD.out; omega) (by rw [← HC.out]; unfold nameC; simp; omega))
        have g1 : ¬ (c : Int) < 97 := by omega
        have g1d : decide (c < 97) = false := decide_eq_false (by omega)
        have g2 : (122 : Int) < (c : Int) := by omega
        have g2d : decide (122 < c) = true := decide_eq_true (by omega)
        have g3 : ¬ (c : Int) < 48 := by omega
        have g3d : decide (c < 48) = false := decide_eq_false (by omega)
        have g4 : (57 : Int) < (c : Int) := by omega
        have g4d : decide (57 < c) = true := decide_eq_true (by omega)
        have g5 : ((c : Int) != 46) = true := bneT (by omega)
        have g5d : (c != 46) = true := by simp; omega
        have g6 : ((c : Int) != 45) = true := bneT (by omega)
        have g6d : (c != 45) = true := by simp; omega
        clear c1
        go_wp2
        go_ret
        exact ⟨by rw [HR.out]; rfl, rfl⟩
    · have hdi : ¬ (i : Int) < (n : Int) := by omega
      skip
      have hie : i = n := by omega
      have HR := Lib.hid (nameB_yes HN.out (fun j hj => HA.out j (by have := HNN.out; omega)))
      clear hd hin hie
      go_wp2
      go_ret
      exact ⟨by rw [HR.out]; rfl, rfl⟩
set_option maxHeartbeats 4000000 in
theorem refName_any (s : ByteArray) (w : World) (hs : s.size ≤ 9223372036854775807) :
    Calls Tryd.prog 72 #[.string s] w fun e w' => e = .returned (.bool (nameB s)) ∧ w = w' := by
  have hS : ∀ i, i < s.size → ∀ w, (Instr.index 9 (.string s) (.int .i64 (i : Int))).run Tryd.prog w = .ok (.int .u8 (chr s i : Int)) w := fun i hi w => run_chr Tryd.underlying9 s i hi w
  by_cases h0 : s.size = 0
  · have HR := Lib.hid (nameB_no (s := s) (by omega))
    have q : (s.size : Int) < 1 := by omega
    have q' : decide (s.size < 1) = true := decide_eq_true (by omega)
    clear hS h0
    go_enter Tryd.func72, Tryd.ntmps72
    go_wp2
    go_ret
    exact ⟨by rw [HR.out]; rfl, rfl⟩
  have q : ¬ (s.size : Int) < 1 := by omega
  have q' : decide (s.size < 1) = false := decide_eq_false (by omega)
  by_cases h1 : 32 < s.size
  · have HR := Lib.hid (nameB_no (s := s) (by omega))
    have q1 : (32 : Int) < (s.size : Int) := by omega
    have q2 : decide (32 < s.size) = true := decide_eq_true h1
    clear hS h0
    go_enter Tryd.func72, Tryd.ntmps72
    go_wp2
    go_ret
    exact ⟨by rw [HR.out]; rfl, rfl⟩
  have q1 : ¬ (32 : Int) < (s.size : Int) := by omega
  have q2 : decide (32 < s.size) = false := decide_eq_false h1
  have HS := Lib.hid hS
  have HN := Lib.hid (show 1 ≤ s.size ∧ s.size ≤ 32 from ⟨by omega, by omega⟩)
  obtain ⟨n, hn⟩ : ∃ n, n = s.size := ⟨_, rfl⟩
  have HNN := Lib.hid hn
  clear hS h0 h1
  go_enter Tryd.func72, Tryd.ntmps72
  go_wp2
  rw [← hn]
  clear hs q q' q1 q2 hn
  go_loopg [3] n (fun g s0 wr => ∃ i : Nat, i ≤ n ∧ g = n - i ∧ s0 = .int .i64 i ∧ w = wr ∧ ∀ j, j < i → nameC (chr s j) = true)
  case atStart => exact ⟨0, Nat.zero_le _, rfl, rfl, rfl, fun j hj => by omega⟩
  case round =>
    obtain ⟨i, hin, rfl, rfl, rfl, ha⟩ := hrel
    have HA := Lib.hid ha
    clear ha
    by_cases hd : i < n
    · have hdi : (i : Int) < (n : Int) := by omega
      have hls : (s.size : Int) = (n : Int) := by have := HNN.out; omega
      have HD := Lib.hid hd
      have wi : IntKind.i64.wrap ((i : Int) + 1) = ((i + 1 : Nat) : Int) := by rw [IntWalk.i64_in _ ⟨by omega, by have := HN.out; have := HNN.out; omega⟩]; omega
      have hix := HS.out i (by have := HNN.out; omega)
      have hlt := chr_lt s i
      obtain ⟨c, hc⟩ : ∃ c, c = chr s i := ⟨_, rfl⟩
      rw [← hc] at hix hlt
      have HC := Lib.hid hc
      clear hd hin hc
      have hcase : (c < 45) ∨ (c = 45) ∨ (c = 46) ∨ (c = 47) ∨ (48 ≤ c ∧ c ≤ 57) ∨ (58 ≤ c ∧ c ≤ 96) ∨ (97 ≤ c ∧ c ≤ 122) ∨ (123 ≤ c) := by omega
      rcases hcase with c1 | rfl | rfl | rfl | ⟨c1, c2⟩ | ⟨c1, c2⟩ | ⟨c1, c2⟩ | c1
      · have HR := Lib.hid (nameB_at (s := s) (i := i) (by have := HNN.out; have := HD.out; omega) (by rw [← HC.out]; unfold nameC; simp; omega))
        have g1 : ¬ (97 : Int) ≤ (c : Int) := by omega
        have g1d : decide (97 ≤ c) = false := decide_eq_false (by omega)
        have g2 : (c : Int) ≤ 122 := by omega
        have g2d : decide (c ≤ 122) = true := decide_eq_true (by omega)
        have g3 : ¬ (48 : Int) ≤ (c : Int) := by omega
        have g3d : decide (48 ≤ c) = false := decide_eq_false (by omega)
        have g4 : (c : Int) ≤ 57 := by omega
        have g4d : decide (c ≤ 57) = true := decide_eq_true (by omega)
        have g5 : ((c : Int) != 46) = true := bneT (by omega)
        have g5d : (c != 46) = true := by simp; omega
        have g6 : ((c : Int) != 45) = true := bneT (by omega)
        have g6d : (c != 45) = true := by simp; omega
        clear c1
        go_wp2
        go_ret
        exact ⟨by rw [HR.out]; rfl, rfl⟩
      · have HOK := Lib.hid (show nameC (chr s i) = true from by rw [← HC.out]; rfl)
        go_wp2
        go_roundg (n - (i + 1))
        case measure => have := HD.out; omega
        case rel => exact ⟨i + 1, HD.out, rfl, rfl, rfl, all_succN HA.out HOK.out⟩
      · have HOK := Lib.hid (show nameC (chr s i) = true from by rw [← HC.out]; rfl)
        go_wp2
        go_roundg (n - (i + 1))
        case measure => have := HD.out; omega
        case rel => exact ⟨i + 1, HD.out, rfl, rfl, rfl, all_succN HA.out HOK.out⟩
      · have HR := Lib.hid (nameB_at (s := s) (i := i) (by have := HNN.out; have := HD.out; omega) (by rw [← HC.out]; rfl))
        go_wp2
        go_ret
        exact ⟨by rw [HR.out]; rfl, rfl⟩
      · have HOK := Lib.hid (show nameC (chr s i) = true from by rw [← HC.out]; unfold nameC; simp; omega)
        have g1 : ¬ (97 : Int) ≤ (c : Int) := by omega
        have g1d : decide (97 ≤ c) = false := decide_eq_false (by omega)
        have g2 : (c : Int) ≤ 122 := by omega
        have g2d : decide (c ≤ 122) = true := decide_eq_true (by omega)
        have g3 : (48 : Int) ≤ (c : Int) := by omega
        have g3d : decide (48 ≤ c) = true := decide_eq_true (by omega)
        have g4 : (c : Int) ≤ 57 := by omega
        have g4d : decide (c ≤ 57) = true := decide_eq_true (by omega)
        have g5 : ((c : Int) != 46) = true := bneT (by omega)
        have g5d : (c != 46) = true := by simp; omega
        have g6 : ((c : Int) != 45) = true := bneT (by omega)
        have g6d : (c != 45) = true := by simp; omega
        clear c1 c2
        go_wp2
        go_roundg (n - (i + 1))
        case measure => have := HD.out; omega
        case rel => exact ⟨i + 1, HD.out, rfl, rfl, rfl, all_succN HA.out HOK.out⟩
      · have HR := Lib.hid (nameB_at (s := s) (i := i) (by have := HNN.out; have := HD.out; omega) (by rw [← HC.out]; unfold nameC; simp; omega))
        have g1 : ¬ (97 : Int) ≤ (c : Int) := by omega
        have g1d : decide (97 ≤ c) = false := decide_eq_false (by omega)
        have g2 : (c : Int) ≤ 122 := by omega
        have g2d : decide (c ≤ 122) = true := decide_eq_true (by omega)
        have g3 : (48 : Int) ≤ (c : Int) := by omega
        have g3d : decide (48 ≤ c) = true := decide_eq_true (by omega)
        have g4 : ¬ (c : Int) ≤ 57 := by omega
        have g4d : decide (c ≤ 57) = false := decide_eq_false (by omega)
        have g5 : ((c : Int) != 46) = true := bneT (by omega)
        have g5d : (c != 46) = true := by simp; omega
        have g6 : ((c : Int) != 45) = true := bneT (by omega)
        have g6d : (c != 45) = true := by simp; omega
        clear c1 c2
        go_wp2
        go_ret
        exact ⟨by rw [HR.out]; rfl, rfl⟩
      · have HOK := Lib.hid (show nameC (chr s i) = true from by rw [← HC.out]; unfold nameC; simp; omega)
        have g1 : (97 : Int) ≤ (c : Int) := by omega
        have g1d : decide (97 ≤ c) = true := decide_eq_true (by omega)
        have g2 : (c : Int) ≤ 122 := by omega
        have g2d : decide (c ≤ 122) = true := decide_eq_true (by omega)
        have g3 : (48 : Int) ≤ (c : Int) := by omega
        have g3d : decide (48 ≤ c) = true := decide_eq_true (by omega)
        have g4 : ¬ (c : Int) ≤ 57 := by omega
        have g4d : decide (c ≤ 57) = false := decide_eq_false (by omega)
        have g5 : ((c : Int) != 46) = true := bneT (by omega)
        have g5d : (c != 46) = true := by simp; omega
        have g6 : ((c : Int) != 45) = true := bneT (by omega)
        have g6d : (c != 45) = true := by simp; omega
        clear c1 c2
        go_wp2
        go_roundg (n - (i + 1))
        case measure => have := HD.out; omega
        case rel => exact ⟨i + 1, HD.out, rfl, rfl, rfl, all_succN HA.out HOK.out⟩
      · have HR := Lib.hid (nameB_at (s := s) (i := i) (by have := HNN.out; have := HD.out; omega) (by rw [← HC.out]; unfold nameC; simp; omega))
        have g1 : (97 : Int) ≤ (c : Int) := by omega
        have g1d : decide (97 ≤ c) = true := decide_eq_true (by omega)
        have g2 : ¬ (c : Int) ≤ 122 := by omega
        have g2d : decide (c ≤ 122) = false := decide_eq_false (by omega)
        have g3 : (48 : Int) ≤ (c : Int) := by omega
        have g3d : decide (48 ≤ c) = true := decide_eq_true (by omega)
        have g4 : ¬ (c : Int) ≤ 57 := by omega
        have g4d : decide (c ≤ 57) = false := decide_eq_false (by omega)
        have g5 : ((c : Int) != 46) = true := bneT (by omega)
        have g5d : (c != 46) = true := by simp; omega
        have g6 : ((c : Int) != 45) = true := bneT (by omega)
        have g6d : (c != 45) = true := by simp; omega
        clear c1
        go_wp2
        go_ret
        exact ⟨by rw [HR.out]; rfl, rfl⟩
    · have hdi : ¬ (i : Int) < (n : Int) := by omega
      have hls : (s.size : Int) = (n : Int) := by have := HNN.out; omega
      have hie : i = n := by omega
      have HR := Lib.hid (nameB_yes HN.out (fun j hj => HA.out j (by have := HNN.out; omega)))
      clear hd hin hie
      go_wp2
      go_ret
      exact ⟨by rw [HR.out]; rfl, rfl⟩
end Go.Proofs.YtficodklidaheaaDoor
