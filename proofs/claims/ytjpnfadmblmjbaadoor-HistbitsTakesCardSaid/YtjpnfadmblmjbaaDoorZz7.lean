/- Texts put together: V19, Z11, Z12, Z13, G2, G3. -/
import Derived.Test.YtjpnfadmblmjbaaDoorZz6
import Derived.Test.YtjpnfadmblmjbaaDoorZz4
import Derived.OrdersHeld
import Derived.StillTail
import Derived.Deep.RegionHeld3
/- package vary: GetInt, next, Row.Get. -/
namespace Go.Proofs.YtjpnfadmblmjbaaDoor
open Go.RowKit
attribute [local go_sem ↓] Go.wp_at_zero Go.wp_at_succ

theorem gotSmall_u64 (l : List Bool) : (gotSmall l).1 < 18446744073709551616 := by
  rcases gotSmall_cases l with ⟨_, e⟩ | ⟨_, c, S, _, _, _, _, ⟨_, e⟩ | ⟨_, x, _, _, ⟨_, e⟩ | ⟨_, e⟩⟩⟩ <;> rw [e] <;> simp; assumption

set_option maxHeartbeats 1000000 in
theorem varyGetInt_any (B p : Nat) (v : Value) (bs : List Bool) (t : Nat) (w : World) (HR : BrAt w B p v bs t) (hB : B ≤ w.heap.size) (hl : bs.length ≤ 100000000) (HT : ClassTab w) :
    Calls Tryd.prog 22 #[.pointer (some ⟨p, 0, none⟩)] w (GotAt .i64 w B p v bs t (zagI (gotSmall (bs.drop t)).1) (gotSmall (bs.drop t)).2.1 (gotSmall (bs.drop t)).2.2) := by
  have HG := Lib.hid (varyGet_any B p v bs t w HR hB hl HT)
  have hv := gotSmall_u64 (bs.drop t)
  obtain ⟨V, hV⟩ : ∃ V, V = (gotSmall (bs.drop t)).1 := ⟨_, rfl⟩
  obtain ⟨N, hN⟩ : ∃ V, V = (gotSmall (bs.drop t)).2.1 := ⟨_, rfl⟩
  obtain ⟨E, hE⟩ : ∃ V, V = (gotSmall (bs.drop t)).2.2 := ⟨_, rfl⟩
  rw [← hV] at hv
  rw [← hV, ← hN, ← hE] at HG ⊢
  have HZ := Lib.hid (zag_any (V : Int) (by omega) (by omega))
  obtain ⟨Z, hZ⟩ : ∃ Z, Z = zagI (V : Int) := ⟨_, rfl⟩
  rw [← hZ] at HZ ⊢
  clear HR HT hV hN hE hZ
  go_enter Tryd.func22, Tryd.ntmps22
  go_wp2_with (first
    | (go_at_call 24; refine HG.out.mono ?_; rintro e w1 ⟨rfl, hq, hk⟩; have HQ := Lib.hid hq; have HK := Lib.hid hk; clear hq hk)
    | (go_at_call 56; refine (HZ.out _).mono ?_; rintro e w' ⟨rfl, rfl⟩))
  go_ret2
  exact ⟨rfl, HQ.out, HK.out⟩

/-- What stands next for a row. -/
def nextGot (n last step : Int) (l : List Bool) : Int × Nat × Nat :=
  if n < 2 then (wrap64 (last + zagI (gotSmall l).1), (gotSmall l).2.1, (gotSmall l).2.2) else (wrap64 (wrap64 (last + step) + (gotStep l).1), (gotStep l).2.1, (gotStep l).2.2)
theorem nextGot_I64 (n last step : Int) (l : List Bool) : I64 (nextGot n last step l).1 := by
  unfold nextGot I64 wrap64; split <;> simp only <;> omega
theorem nextGot_le (n last step : Int) (l : List Bool) : (nextGot n last step l).2.1 ≤ l.length := by
  unfold nextGot; split
  · exact gotSmall_le l
  · exact gotStep_le l

set_option maxHeartbeats 1000000 in
theorem rowNext_any (B p r : Nat) (v : Value) (bs : List Bool) (t : Nat) (n last step : Int) (w : World) (HR : BrAt w B p v bs t) (HX : RowBox w r n last step) (hrp : r ≠ p) (hB : B ≤ w.heap.size) (hB1 : 1 < B) (hl : bs.length ≤ 100000000) (HT : Tabs w) :
    Calls Tryd.prog 61 #[.pointer (some ⟨r, 0, none⟩), .pointer (some ⟨p, 0, none⟩)] w (GotAt .i64 w B p v bs t (nextGot n last step (bs.drop t)).1 (nextGot n last step (bs.drop t)).2.1 (nextGot n last step (bs.drop t)).2.2) := by
  obtain ⟨x0, x1, x2⟩ := HX.c
  by_cases h2 : n < 2
  · have HG := varyGetInt_any B p v bs t w HR hB hl HT.c
    have e : nextGot n last step (bs.drop t) = (wrap64 (last + zagI (gotSmall (bs.drop t)).1), (gotSmall (bs.drop t)).2.1, (gotSmall (bs.drop t)).2.2) := if_pos h2
    rw [e]
    obtain ⟨V, hV⟩ : ∃ V, V = zagI (gotSmall (bs.drop t)).1 := ⟨_, rfl⟩
    obtain ⟨N, hN⟩ : ∃ V, V = (gotSmall (bs.drop t)).2.1 := ⟨_, rfl⟩
    obtain ⟨E, hE⟩ : ∃ V, V = (gotSmall (bs.drop t)).2.2 := ⟨_, rfl⟩
    rw [← hV, ← hN, ← hE] at HG ⊢
    have HG := Lib.hid HG
    have HXX := Lib.hid HX
    clear HR HT hV hN hE e HX
    go_enter Tryd.func61, Tryd.ntmps61
    go_wp2_with (go_at_call 22; refine HG.out.mono ?_; rintro e w1 ⟨rfl, hq, hk⟩; have hy := (HXX.out.kept hk hrp).c; have HQ := Lib.hid hq; have HK := Lib.hid hk; obtain ⟨y0, y1, y2⟩ := hy; clear hq hk)
    go_ret2
    exact ⟨rfl, HQ.out, HK.out⟩
  · have HG := getWay_any B p v bs t w HR hB hB1 hl HT.y
    have e : nextGot n last step (bs.drop t) = (wrap64 (wrap64 (last + step) + (gotStep (bs.drop t)).1), (gotStep (bs.drop t)).2.1, (gotStep (bs.drop t)).2.2) := if_neg h2
    rw [e]
    obtain ⟨V, hV⟩ : ∃ V, V = (gotStep (bs.drop t)).1 := ⟨_, rfl⟩
    obtain ⟨N, hN⟩ : ∃ V, V = (gotStep (bs.drop t)).2.1 := ⟨_, rfl⟩
    obtain ⟨E, hE⟩ : ∃ V, V = (gotStep (bs.drop t)).2.2 := ⟨_, rfl⟩
    rw [← hV, ← hN, ← hE] at HG ⊢
    have HG := Lib.hid HG
    have HXX := Lib.hid HX
    obtain ⟨L, hL⟩ : ∃ L, L = wrap64 (last + step) := ⟨_, rfl⟩
    obtain ⟨M, hM⟩ : ∃ M, M = wrap64 (L + V) := ⟨_, rfl⟩
    rw [← hL, ← hM]
    have e1 : IntKind.i64.wrap (last + step) = L := by rw [hL]; exact IntWalk.i64_left _
    have e2 : IntKind.i64.wrap (L + V) = M := by rw [hM]; exact IntWalk.i64_left _
    clear HR HT hV hN hE e HX hL hM
    go_enter Tryd.func61, Tryd.ntmps61
    go_wp2_with (go_at_call 85; refine HG.out.mono ?_; rintro e w1 ⟨rfl, hq, hk⟩; have hy := (HXX.out.kept hk hrp).c; have HQ := Lib.hid hq; have HK := Lib.hid hk; obtain ⟨y0, y1, y2⟩ := hy; clear hq hk)
    go_quiet (fail)
    go_wp2
    go_ret2
    exact ⟨rfl, HQ.out.drewN _, HK.out.drewN _⟩

/-- What taking a row's next number leaves. -/
def RowGot (w : World) (B p r : Nat) (v : Value) (bs : List Bool) (t : Nat) (n last step X : Int) (N : Nat) (e : Ending) (w' : World) : Prop :=
  e = .returned (.tuple #[.int .i64 X, .int .i64 0]) ∧ RowBox w' r (n + 1) X (stepOf n last step X) ∧ BrAt w' B p v bs (t + N) ∧ Kept (fun k => k = p ∨ k = r) w w'
def RowGotNo (w : World) (B p r : Nat) (v : Value) (bs : List Bool) (t : Nat) (n last step : Int) (E : Nat) (e : Ending) (w' : World) : Prop :=
  e = .returned (.tuple #[.int .i64 0, .int .i64 (E : Int)]) ∧ RowBox w' r n last step ∧ BrAt w' B p v bs t ∧ Kept (fun k => k = p) w w'

theorem gotSmall_E (l : List Bool) : (gotSmall l).2.2 ≠ 0 → (gotSmall l).2.1 = 0 ∧ (gotSmall l).1 = 0 := by
  rcases gotSmall_cases l with ⟨_, e⟩ | ⟨_, c, S, _, _, _, _, ⟨_, e⟩ | ⟨_, x, _, _, ⟨_, e⟩ | ⟨_, e⟩⟩⟩ <;> rw [e] <;> simp
theorem gotStep_E (l : List Bool) : (gotStep l).2.2 ≠ 0 → (gotStep l).2.1 = 0 ∧ (gotStep l).1 = 0 := by
  obtain ⟨K, S, _, _, _, _, ⟨_, _, e⟩ | ⟨A, _, _, ⟨_, e⟩ | ⟨_, x, _, _, ⟨_, e⟩ | ⟨_, e⟩⟩⟩⟩ := gotStep_cases l <;> rw [e] <;> simp
theorem nextGot_E (n last step : Int) (l : List Bool) : (nextGot n last step l).2.2 ≠ 0 → (nextGot n last step l).2.1 = 0 := by
  unfold nextGot; split
  · exact fun h => (gotSmall_E l h).1
  · exact fun h => (gotStep_E l h).1

set_option maxHeartbeats 1000000 in
theorem rowGet_yes (B p r : Nat) (v : Value) (bs : List Bool) (t : Nat) (n last step : Int) (w : World) (HR : BrAt w B p v bs t) (HX : RowBox w r n last step) (hrp : r ≠ p) (hrv : v.ownBlock ≠ some r) (hB : B ≤ w.heap.size) (hB1 : 1 < B) (hl : bs.length ≤ 100000000) (HT : Tabs w) (hn : 0 ≤ n) (hn2 : n ≤ 1000000)
    (hE : (nextGot n last step (bs.drop t)).2.2 = 0) :
    Calls Tryd.prog 31 #[.pointer (some ⟨r, 0, none⟩), .pointer (some ⟨p, 0, none⟩)] w (RowGot w B p r v bs t n last step (nextGot n last step (bs.drop t)).1 (nextGot n last step (bs.drop t)).2.1) := by
  have HG := rowNext_any B p r v bs t n last step w HR HX hrp hB hB1 hl HT
  rw [hE] at HG
  obtain ⟨X, hX⟩ : ∃ V, V = (nextGot n last step (bs.drop t)).1 := ⟨_, rfl⟩
  obtain ⟨N, hN⟩ : ∃ V, V = (nextGot n last step (bs.drop t)).2.1 := ⟨_, rfl⟩
  rw [← hX, ← hN] at HG ⊢
  have HG := Lib.hid HG
  have HXX := Lib.hid HX
  have HO := Lib.hid fun w1 h => goOn_any r n last step X w1 h hn (by omega)
  clear HR HT hX hN hE HX
  go_enter Tryd.func31, Tryd.ntmps31
  go_wp2_with (first
    | (go_at_call 61; refine HG.out.mono ?_; rintro e w1 ⟨rfl, hq, hk⟩; have HQ := Lib.hid hq; have HK := Lib.hid hk; clear hq hk)
    | (go_at_call 59; refine (HO.out _ (HXX.out.kept HK.out hrp)).mono ?_; rintro e w2 ⟨rfl, hx2, hk2⟩; have HX2 := Lib.hid hx2; have HK2 := Lib.hid hk2; clear hx2 hk2))
  go_ret2
  exact ⟨rfl, HX2.out, HQ.out.kept HK2.out (fun e => hrp e.symm) (fun k e x => hrv (by rw [e, x])), (HK.out.mono (fun _ _ e => .inl e)).trans (HK2.out.mono (fun _ _ e => .inr e))⟩

set_option maxHeartbeats 1000000 in
theorem rowGet_no (B p r : Nat) (v : Value) (bs : List Bool) (t : Nat) (n last step : Int) (w : World) (HR : BrAt w B p v bs t) (HX : RowBox w r n last step) (hrp : r ≠ p) (hB : B ≤ w.heap.size) (hB1 : 1 < B) (hl : bs.length ≤ 100000000) (HT : Tabs w)
    (hE : (nextGot n last step (bs.drop t)).2.2 ≠ 0) :
    Calls Tryd.prog 31 #[.pointer (some ⟨r, 0, none⟩), .pointer (some ⟨p, 0, none⟩)] w (RowGotNo w B p r v bs t n last step (nextGot n last step (bs.drop t)).2.2) := by
  have HG := rowNext_any B p r v bs t n last step w HR HX hrp hB hB1 hl HT
  have hN := nextGot_E n last step (bs.drop t) hE
  rw [hN] at HG
  obtain ⟨X, hX⟩ : ∃ V, V = (nextGot n last step (bs.drop t)).1 := ⟨_, rfl⟩
  obtain ⟨E, hEE⟩ : ∃ V, V = (nextGot n last step (bs.drop t)).2.2 := ⟨_, rfl⟩
  rw [← hX, ← hEE] at HG
  rw [← hEE] at hE ⊢
  have HG := Lib.hid HG
  have HXX := Lib.hid HX
  have q : ((E : Int) != 0) = true := by simp; omega
  clear HR HT hX hN hEE HX hE
  go_enter Tryd.func31, Tryd.ntmps31
  go_wp2_with (go_at_call 61; refine HG.out.mono ?_; rintro e w1 ⟨rfl, hq, hk⟩; have HQ := Lib.hid hq; have HK := Lib.hid hk; clear hq hk)
  go_ret2
  exact ⟨rfl, HXX.out.kept HK.out hrp, HQ.out, HK.out⟩
end Go.Proofs.YtjpnfadmblmjbaaDoor
/- Layer 10: what bits are a row's next histogram, plainly. -/
namespace Go.Proofs.YtjpnfadmblmjbaaDoor
open Go.RowKit

/-- What a side's shape says: offset, size, bits taken, error. -/
def gotSide (l : List Bool) : Int × Nat × Nat × Nat :=
  if l.length < 8 then (0, 0, 0, 2)
  else if 160 < numB (l.take 8) then (0, 0, 8, 4)
  else if numB (l.take 8) = 0 then (0, 0, 8, 0)
  else (zagI (gotSmall (l.drop 8)).1, numB (l.take 8), 8 + (gotSmall (l.drop 8)).2.1, (gotSmall (l.drop 8)).2.2)
/-- A shape. -/
structure ShV where
  sc : Int
  po : Int
  pn : Nat
  no : Int
  nn : Nat
  deriving DecidableEq
def ShV.val (s : ShV) : Value := .agg #[.int .i64 s.sc, .int .i64 s.po, .int .i64 (s.pn : Int), .int .i64 s.no, .int .i64 (s.nn : Int)]
def shOf (h : HistV) : ShV := ⟨h.sc, h.po, h.pl.length, h.no, h.nl.length⟩
theorem shOf_val (h : HistV) : (shOf h).val = shapeV h := rfl
/-- A shape that bits say, how many of them, the error. -/
def gotShape (l : List Bool) : ShV × Nat × Nat :=
  if l.length < 5 then (⟨0, 0, 0, 0, 0⟩, 0, 2)
  else
    let a := gotSide (l.drop 5)
    if a.2.2.2 ≠ 0 then (⟨0, 0, 0, 0, 0⟩, 5 + a.2.2.1, a.2.2.2)
    else
      let b := gotSide (l.drop (5 + a.2.2.1))
      (⟨(numB (l.take 5) : Int) - 10, a.1, a.2.1, b.1, b.2.1⟩, 5 + a.2.2.1 + b.2.2.1, b.2.2.2)
/-- Numbers that are read one behind the other, the k-th by f k: the numbers, the bits taken, the first error. -/
def stN (f : Nat → List Bool → Nat × Nat × Nat) (l : List Bool) : Nat → List Nat × Nat × Nat
  | 0 => ([], 0, 0)
  | k + 1 =>
    let s := stN f l k
    if s.2.2 ≠ 0 then s
    else
      let g := f k (l.drop s.2.1)
      if g.2.2 ≠ 0 then (s.1, s.2.1, g.2.2) else (s.1 ++ [g.1], s.2.1 + g.2.1, 0)
/-- A sum modulo 2^64. -/
def addU (a : Nat) (z : Int) : Nat := (((a : Int) + z) % 18446744073709551616).toNat
def readF : Nat → List Bool → Nat × Nat × Nat := fun _ b => gotSmall b
def readD (m : List Nat) : Nat → List Bool → Nat × Nat × Nat := fun j b => (addU (m.getD j 0) (zagI (gotSmall b).1), (gotSmall b).2.1, (gotSmall b).2.2)
/-- The histogram of a shape with counts. -/
def mkH (s : ShV) (l : List Nat) : HistV := ⟨s.sc, l.getD 0 0, s.po, (l.drop 1).take s.pn, s.no, l.drop (1 + s.pn)⟩
/-- The histogram of a shape whose counts are read: bits taken, error. -/
def gotC (f : Nat → List Bool → Nat × Nat × Nat) (s : ShV) (l : List Bool) : HistV × Nat × Nat :=
  let r := stN f l (1 + s.pn + s.nn)
  if r.2.2 ≠ 0 then (zeroH, 0, r.2.2) else (mkH s r.1, r.2.1, (mkH s r.1).err)
/-- A row's next histogram behind n of them, the last one g: bits taken, error. -/
def gotH (n : Nat) (g : HistV) (l : List Bool) : HistV × Nat × Nat :=
  if l.length < 1 then (zeroH, 0, 2)
  else if l.getD 0 false = true then
    if n = 0 then (zeroH, 0, 3)
    else
      let r := gotC (readD (cntL g)) (shOf g) (l.drop 1)
      (r.1, 1 + r.2.1, r.2.2)
  else
    let s := gotShape (l.drop 1)
    if s.2.2 ≠ 0 then (zeroH, 0, s.2.2)
    else
      let r := gotC readF s.1 (l.drop (1 + s.2.1))
      if r.2.2 ≠ 0 then (r.1, 0, r.2.2)
      else if 0 < n ∧ s.1 = shOf g then (r.1, 0, 3)
      else (r.1, 1 + s.2.1 + r.2.1, 0)

theorem stN_succ (f : Nat → List Bool → Nat × Nat × Nat) (l : List Bool) (k : Nat) (h : (stN f l k).2.2 = 0) :
    stN f l (k + 1) = if (f k (l.drop (stN f l k).2.1)).2.2 ≠ 0 then ((stN f l k).1, (stN f l k).2.1, (f k (l.drop (stN f l k).2.1)).2.2) else ((stN f l k).1 ++ [(f k (l.drop (stN f l k).2.1)).1], (stN f l k).2.1 + (f k (l.drop (stN f l k).2.1)).2.1, 0) := by
  rw [stN]
  simp only
  rw [if_neg (by rw [h]; exact fun e => e rfl)]
theorem stN_stop (f : Nat → List Bool → Nat × Nat × Nat) (l : List Bool) (k : Nat) (h : (stN f l k).2.2 ≠ 0) (j : Nat) : stN f l (k + j) = stN f l k := by
  induction j with
  | zero => rfl
  | succ j ih =>
    rw [← Nat.add_assoc, stN]
    simp only
    rw [ih, if_pos h]
theorem stN_len (f : Nat → List Bool → Nat × Nat × Nat) (l : List Bool) (k : Nat) (h : (stN f l k).2.2 = 0) : (stN f l k).1.length = k := by
  induction k with
  | zero => rfl
  | succ k ih =>
    have h0 : (stN f l k).2.2 = 0 := by
      rcases Nat.decEq (stN f l k).2.2 0 with h0 | h0
      · rw [stN_stop f l k h0 1] at h; exact absurd h h0
      · exact h0
    rw [stN_succ f l k h0] at h ⊢
    split at h
    · rename_i hg; exact absurd h hg
    · rename_i hg
      rw [if_neg hg]
      simp [ih h0]
theorem stN_down (f : Nat → List Bool → Nat × Nat × Nat) (l : List Bool) (n k : Nat) (h : (stN f l n).2.2 = 0) (hk : k ≤ n) : (stN f l k).2.2 = 0 := by
  rcases Nat.decEq (stN f l k).2.2 0 with h0 | h0
  · have := stN_stop f l k h0 (n - k)
    rw [Nat.add_sub_cancel' hk] at this
    rw [this] at h
    exact absurd h h0
  · exact h0
theorem stN_bad (f : Nat → List Bool → Nat × Nat × Nat) (l : List Bool) (n k E : Nat) (h : (stN f l k).2.2 = 0) (hE : (f k (l.drop (stN f l k).2.1)).2.2 = E) (h0 : E ≠ 0) (hk : k < n) : (stN f l n).2.2 = E := by
  have h1 := stN_succ f l k h
  rw [if_pos (by rw [hE]; exact h0), hE] at h1
  have h2 := stN_stop f l (k + 1) (by rw [h1]; exact h0) (n - (k + 1))
  rw [Nat.add_sub_cancel' hk] at h2
  rw [h2, h1]
theorem stN_take (f : Nat → List Bool → Nat × Nat × Nat) (l : List Bool) (n k : Nat) (h : (stN f l n).2.2 = 0) (hk : k ≤ n) : (stN f l n).1.take k = (stN f l k).1 := by
  induction n with
  | zero => obtain rfl : k = 0 := by omega
            rfl
  | succ n ih =>
    have h0 := stN_down f l (n + 1) n h (by omega)
    rcases Nat.lt_or_ge k (n + 1) with hlt | hge
    · have hs := stN_succ f l n h0
      have hl := stN_len f l n h0
      rw [← ih h0 (by omega), hs]
      split
      · rfl
      · simp only
        rw [List.take_append_of_le_length (by omega)]
    · obtain rfl : k = n + 1 := by omega
      rw [List.take_of_length_le (by rw [stN_len f l _ h]; exact Nat.le_refl _)]
/-- What is taken lies within the bits. -/
theorem stN_le (f : Nat → List Bool → Nat × Nat × Nat) (hf : ∀ j b, (f j b).2.1 ≤ b.length) (l : List Bool) (k : Nat) : (stN f l k).2.1 ≤ l.length := by
  induction k with
  | zero => exact Nat.zero_le _
  | succ k ih =>
    rcases Nat.decEq (stN f l k).2.2 0 with h0 | h0
    · rw [stN_stop f l k h0 1]; exact ih
    · rw [stN_succ f l k h0]
      split
      · exact ih
      · have := hf k (l.drop (stN f l k).2.1)
        rw [List.length_drop] at this
        simp only
        omega
theorem readF_le (j : Nat) (b : List Bool) : (readF j b).2.1 ≤ b.length := gotSmall_le b
theorem readD_le (m : List Nat) (j : Nat) (b : List Bool) : (readD m j b).2.1 ≤ b.length := gotSmall_le b
theorem addU_lt (a : Nat) (z : Int) : addU a z < 18446744073709551616 := by unfold addU; omega
theorem stN_u64 (f : Nat → List Bool → Nat × Nat × Nat) (hf : ∀ j b, (f j b).1 < 18446744073709551616) (l : List Bool) (k : Nat) : ∀ x ∈ (stN f l k).1, x < 18446744073709551616 := by
  induction k with
  | zero => intro x hx; simp [stN] at hx
  | succ k ih =>
    rcases Nat.decEq (stN f l k).2.2 0 with h0 | h0
    · rw [stN_stop f l k h0 1]; exact ih
    · rw [stN_succ f l k h0]
      split
      · exact ih
      · intro x hx
        rcases List.mem_append.1 hx with hx | hx
        · exact ih x hx
        · rw [List.mem_singleton] at hx; rw [hx]; exact hf _ _
theorem gotSide_le (l : List Bool) : (gotSide l).2.2.1 ≤ l.length ∧ (gotSide l).2.1 ≤ 160 ∧ I64 (gotSide l).1 := by
  unfold gotSide
  split
  · exact ⟨Nat.zero_le _, Nat.zero_le _, ⟨by decide, by decide⟩⟩
  · split
    · exact ⟨by simp only; omega, Nat.zero_le _, ⟨by decide, by decide⟩⟩
    · split
      · exact ⟨by simp only; omega, Nat.zero_le _, ⟨by decide, by decide⟩⟩
      · refine ⟨?_, by simp only; omega, ?_⟩
        · have := gotSmall_le (l.drop 8)
          rw [List.length_drop] at this
          simp only
          omega
        · have := gotSmall_u64 (l.drop 8)
          exact zagI_range _ (by omega) (by omega)
end Go.Proofs.YtjpnfadmblmjbaaDoor
/- package histbits: getSide, getShape. -/
namespace Go.Proofs.YtjpnfadmblmjbaaDoor
open Go.RowKit
attribute [local go_sem ↓] Go.wp_at_zero Go.wp_at_succ

theorem gotSide_cases (l : List Bool) :
    (l.length < 8 ∧ gotSide l = (0, 0, 0, 2)) ∨ (8 ≤ l.length ∧ ∃ n, n = numB (l.take 8) ∧ n < 256 ∧ ((160 < n ∧ gotSide l = (0, 0, 8, 4)) ∨ (n = 0 ∧ gotSide l = (0, 0, 8, 0)) ∨ (n ≤ 160 ∧ 0 < n ∧ gotSide l = (zagI (gotSmall (l.drop 8)).1, n, 8 + (gotSmall (l.drop 8)).2.1, (gotSmall (l.drop 8)).2.2)))) := by
  by_cases h : l.length < 8
  · exact .inl ⟨h, by unfold gotSide; rw [if_pos h]⟩
  · refine .inr ⟨by omega, _, rfl, ?_, ?_⟩
    · have := numB_lt (l.take 8)
      rwa [List.length_take, Nat.min_eq_left (by omega)] at this
    · by_cases h1 : 160 < numB (l.take 8)
      · exact .inl ⟨h1, by unfold gotSide; rw [if_neg h, if_pos h1]⟩
      · by_cases h2 : numB (l.take 8) = 0
        · exact .inr (.inl ⟨h2, by unfold gotSide; rw [if_neg h, if_neg h1, if_pos h2]⟩)
        · exact .inr (.inr ⟨by omega, by omega, by unfold gotSide; rw [if_neg h, if_neg h1, if_neg h2]⟩)
/-- What a call that reads leaves, and answers. -/
def ReadTo (w : World) (B p : Nat) (v : Value) (bs : List Bool) (t N : Nat) (u : Value) (e : Ending) (w' : World) : Prop :=
  e = .returned u ∧ BrAt w' B p v bs (t + N) ∧ Kept (fun k => k = p) w w'

set_option maxHeartbeats 2000000 in
set_option maxRecDepth 100000 in
theorem getSide_any (B p : Nat) (v : Value) (bs : List Bool) (t : Nat) (w : World) (HR : BrAt w B p v bs t) (hB : B ≤ w.heap.size) (hB0 : 0 < B) (hl : bs.length ≤ 100000000) (HT : ClassTab w) :
    Calls Tryd.prog 97 #[.pointer (some ⟨p, 0, none⟩)] w (ReadTo w B p v bs t (gotSide (bs.drop t)).2.2.1 (.tuple #[.int .i64 (gotSide (bs.drop t)).1, .int .i64 ((gotSide (bs.drop t)).2.1 : Int), .int .i64 ((gotSide (bs.drop t)).2.2.2 : Int)])) := by
  have hft := HR.taken
  have hdl : (bs.drop t).length = bs.length - t := List.length_drop
  have hbase := HR.base
  rcases gotSide_cases (bs.drop t) with ⟨h2, e⟩ | ⟨h2, n, hn, hn2, hrest⟩
  · rw [e]
    dsimp only
    have HT1 := Lib.hid (btake_no B p v bs t 8 _ HR (by omega) (.inr (.inr (by omega))))
    clear HR e hdl h2 HT
    go_enter Tryd.func97, Tryd.ntmps97
    go_wp2_with fail
    refine HT1.out.mono ?_
    rintro e w1 ⟨rfl, hb, hk⟩
    have HE := Lib.hid (And.intro hb hk)
    clear hb hk
    go_wp2
    (try simp only [Exit.inBlock, Exit.then]); refine bodyPost_ret (results_tmp3 rfl _ _ _) rfl ?_
    exact ⟨rfl, HE.out.1, HE.out.2⟩
  · have HT1 := btake_yes B p v bs t 8 _ HR (by omega) (by omega) (by omega)
    rw [← hn] at HT1
    have HT1 := Lib.hid HT1
    have HTT := Lib.hid fun w1 (k : Kept (fun k => k = p) w w1) => HT.keptS k (by omega)
    rcases hrest with ⟨h3, e⟩ | ⟨h3, e⟩ | ⟨h3, h4, e⟩
    · rw [e]
      dsimp only
      have q1 : (160 : Int) < (n : Int) := by omega
      clear HR e hdl h2 HT hn hn2 h3
      go_enter Tryd.func97, Tryd.ntmps97
      go_wp2_with fail
      refine HT1.out.mono ?_
      rintro e w1 ⟨rfl, hb, hk⟩
      have HE := Lib.hid (And.intro hb hk)
      clear hb hk
      go_wp2
      (try simp only [Exit.inBlock, Exit.then]); refine bodyPost_ret (results_tmp3 rfl _ _ _) rfl ?_
      exact ⟨rfl, HE.out.1, HE.out.2⟩
    · rw [e]
      dsimp only
      have q1 : ¬ (160 : Int) < (n : Int) := by omega
      have q2 : ¬ (0 : Int) < (n : Int) := by omega
      have q3 : IntKind.i64.wrap (n : Int) = 0 := by rw [h3]; rfl
      clear HR e hdl h2 HT hn hn2 h3
      go_enter Tryd.func97, Tryd.ntmps97
      go_wp2_with fail
      refine HT1.out.mono ?_
      rintro e w1 ⟨rfl, hb, hk⟩
      have HE := Lib.hid (And.intro hb hk)
      clear hb hk
      go_wp2
      (try simp only [Exit.inBlock, Exit.then]); refine bodyPost_ret (results_tmp3 rfl _ _ _) rfl ?_
      exact ⟨rfl, HE.out.1, HE.out.2⟩
    · rw [e]
      dsimp only
      have q1 : ¬ (160 : Int) < (n : Int) := by omega
      have q2 : (0 : Int) < (n : Int) := by omega
      have q3 : IntKind.i64.wrap (n : Int) = (n : Int) := IntWalk.i64_in _ ⟨by omega, by omega⟩
      rw [List.drop_drop]
      have HG := Lib.hid fun w1 (h : BrAt w1 B p v bs (t + 8)) (hB1 : B ≤ w1.heap.size) (T : ClassTab w1) => varyGetInt_any B p v bs (t + 8) w1 h hB1 hl T
      obtain ⟨G, hG⟩ : ∃ G, G = gotSmall (bs.drop (t + 8)) := ⟨_, rfl⟩
      rw [← hG] at HG ⊢
      have HBW := Lib.hid hB
      obtain ⟨V, hV⟩ : ∃ V, V = zagI (G.1 : Int) := ⟨_, rfl⟩
      obtain ⟨E, hE⟩ : ∃ V, V = G.2.2 := ⟨_, rfl⟩
      rw [← hV, ← hE] at HG ⊢
      clear HR e hdl h2 HT hn hn2 h3 h4 hG hB hV hE
      go_enter Tryd.func97, Tryd.ntmps97
      go_wp2_with fail
      refine HT1.out.mono ?_
      rintro e w1 ⟨rfl, hb, hk⟩
      have HB1 := Lib.hid hb
      have HK1 := Lib.hid hk
      clear hb hk
      go_wp2_with fail
      refine (HG.out w1 HB1.out (Nat.le_trans HBW.out HK1.out.size) (HTT.out _ HK1.out)).mono ?_
      rintro e w2 ⟨rfl, hb, hk⟩
      have HB2 := Lib.hid hb
      have HK2 := Lib.hid (HK1.out.trans hk)
      clear hb hk
      go_wp2
      (try simp only [Exit.inBlock, Exit.then]); refine bodyPost_ret (results_tmp3 rfl _ _ _) rfl ?_
      exact ⟨rfl, by rw [← Nat.add_assoc]; exact HB2.out, HK2.out⟩

theorem sh_info : (Tryd.prog.info? 101).map (·.size) = some 5 := by kernel_rfl
/-- A shape in its block. -/
def ShBox (w : World) (q : Nat) (s : ShV) : Prop := w.heap[q]? = some (.cells #[.int .i64 s.sc, .int .i64 s.po, .int .i64 (s.pn : Int), .int .i64 s.no, .int .i64 (s.nn : Int)] 101 (0, 0))
theorem ShBox.c {w : World} {q : Nat} {s : ShV} (b : ShBox w q s) : w.cell? ⟨q, 0, none⟩ = some (.int .i64 s.sc) ∧ w.cell? ⟨q, 1, none⟩ = some (.int .i64 s.po) ∧ w.cell? ⟨q, 2, none⟩ = some (.int .i64 (s.pn : Int)) ∧ w.cell? ⟨q, 3, none⟩ = some (.int .i64 s.no) ∧ w.cell? ⟨q, 4, none⟩ = some (.int .i64 (s.nn : Int)) := by
  refine ⟨?_, ?_, ?_, ?_, ?_⟩
  · rw [cell_of_row _ _ 0 _ _ _ b]; rfl
  · rw [cell_of_row _ _ 1 _ _ _ b]; rfl
  · rw [cell_of_row _ _ 2 _ _ _ b]; rfl
  · rw [cell_of_row _ _ 3 _ _ _ b]; rfl
  · rw [cell_of_row _ _ 4 _ _ _ b]; rfl
theorem ShBox.f {w : World} {q : Nat} {s : ShV} (b : ShBox w q s) : w.frozen? ⟨q, 0, none⟩ = false ∧ w.frozen? ⟨q, 1, none⟩ = false ∧ w.frozen? ⟨q, 2, none⟩ = false ∧ w.frozen? ⟨q, 3, none⟩ = false ∧ w.frozen? ⟨q, 4, none⟩ = false := by
  unfold ShBox at b; simp [World.frozen?, b]
theorem ShBox.same {S : Nat → Prop} {w w' : World} {q : Nat} {s : ShV} (b : ShBox w q s) (hk : Kept S w w') (hn : ¬ S q) : ShBox w' q s := hk.same b hn
def set5 (w : World) (q : Nat) (a b c d e : Value) : World := ((((w.setCell ⟨q, 0, none⟩ a).setCell ⟨q, 1, none⟩ b).setCell ⟨q, 2, none⟩ c).setCell ⟨q, 3, none⟩ d).setCell ⟨q, 4, none⟩ e
theorem ShBox.set {w : World} {q : Nat} {s : ShV} (b : ShBox w q s) (s' : ShV) : ShBox (set5 w q (.int .i64 s'.sc) (.int .i64 s'.po) (.int .i64 (s'.pn : Int)) (.int .i64 s'.no) (.int .i64 (s'.nn : Int))) q s' := by
  unfold ShBox set5 at *; simp [World.setCell, Array.getElem?_modify, b]
theorem set5_kept (w : World) (q : Nat) (a b c d e : Value) : Kept (fun k => k = q) w (set5 w q a b c d e) :=
  (((((Kept.refl (fun k => k = q) w).setCell (p := ⟨q, 0, none⟩) (fun _ => rfl) a).setCell (p := ⟨q, 1, none⟩) (fun _ => rfl) b).setCell (p := ⟨q, 2, none⟩) (fun _ => rfl) c).setCell (p := ⟨q, 3, none⟩) (fun _ => rfl) d).setCell (p := ⟨q, 4, none⟩) (fun _ => rfl) e
theorem sh_end {fn : Func} {p s : Tmp} {a : Act} {P : Ending → World → Prop} {w : World} {q : Nat} {h : ShV} {x : Value} (hres : fn.results = #[.cell p 101, .tmp s]) (hp : a.tmps.getD p undef = .pointer (some ⟨q, 0, none⟩)) (hx : a.tmps.getD s undef = x) (hd : a.defers = [])
    (hg : ShBox w q h) (hP : P (.returned (.tuple #[h.val, x])) w) : bodyPost Tryd.prog fn P .ret a w := by
  refine bodyPost_ret (v := .tuple #[h.val, x]) ?_ hd hP
  have hp' : a.tmps[p]?.getD undef = .pointer (some ⟨q, 0, none⟩) := by simpa using hp
  have hx' : a.tmps[s]?.getD undef = x := by simpa using hx
  have hl := run_loadVar_row (P := Tryd.prog) w q 101 101 _ (0, 0) _ hg Tryd.underlying101 rfl sh_info
  simp [results, hres, hp', hx', asAddr, hl, ShV.val]
end Go.Proofs.YtjpnfadmblmjbaaDoor
/- package histbits: getShape. -/
namespace Go.Proofs.YtjpnfadmblmjbaaDoor
open Go.RowKit
attribute [local go_sem ↓] Go.wp_at_zero Go.wp_at_succ

theorem gotShape_cases (l : List Bool) :
    (l.length < 5 ∧ gotShape l = (⟨0, 0, 0, 0, 0⟩, 0, 2)) ∨ (5 ≤ l.length ∧ ∃ n, n = numB (l.take 5) ∧ n < 32 ∧ ∃ a, a = gotSide (l.drop 5) ∧ ((a.2.2.2 ≠ 0 ∧ gotShape l = (⟨0, 0, 0, 0, 0⟩, 5 + a.2.2.1, a.2.2.2)) ∨
      (a.2.2.2 = 0 ∧ ∃ b, b = gotSide (l.drop (5 + a.2.2.1)) ∧ gotShape l = (⟨(n : Int) - 10, a.1, a.2.1, b.1, b.2.1⟩, 5 + a.2.2.1 + b.2.2.1, b.2.2.2)))) := by
  by_cases h : l.length < 5
  · exact .inl ⟨h, by unfold gotShape; rw [if_pos h]⟩
  · refine .inr ⟨by omega, _, rfl, ?_, _, rfl, ?_⟩
    · have := numB_lt (l.take 5)
      rwa [List.length_take, Nat.min_eq_left (by omega)] at this
    · by_cases h1 : (gotSide (l.drop 5)).2.2.2 = 0
      · exact .inr ⟨h1, _, rfl, by unfold gotShape; rw [if_neg h]; simp only; rw [if_neg (fun e => e h1)]⟩
      · exact .inl ⟨h1, by unfold gotShape; rw [if_neg h]; simp only; rw [if_pos h1]⟩
theorem ShBox.new {w : World} : ShBox (w.alloc (.cells #[.int .i64 0, .int .i64 0, .int .i64 0, .int .i64 0, .int .i64 0] 101)) w.heap.size ⟨0, 0, 0, 0, 0⟩ := heap_alloc_new w _

set_option maxHeartbeats 4000000 in
set_option maxRecDepth 100000 in
theorem getShape_any (B p : Nat) (v : Value) (bs : List Bool) (t : Nat) (w : World) (HR : BrAt w B p v bs t) (hB : B ≤ w.heap.size) (hB0 : 0 < B) (hl : bs.length ≤ 100000000) (HT : ClassTab w) :
    Calls Tryd.prog 91 #[.pointer (some ⟨p, 0, none⟩)] w (ReadTo w B p v bs t (gotShape (bs.drop t)).2.1 (.tuple #[(gotShape (bs.drop t)).1.val, .int .i64 ((gotShape (bs.drop t)).2.2 : Int)])) := by
  have hft := HR.taken
  have hdl : (bs.drop t).length = bs.length - t := List.length_drop
  have hbase := HR.base
  have hlt := HR.lt
  obtain ⟨w0, hw0⟩ : ∃ w0, w0 = w.alloc (.cells #[.int .i64 0, .int .i64 0, .int .i64 0, .int .i64 0, .int .i64 0] 101) := ⟨_, rfl⟩
  have HQ0 := Lib.hid (show ShBox w0 w.heap.size ⟨0, 0, 0, 0, 0⟩ by rw [hw0]; exact ShBox.new)
  have hk0 : Kept (fun k => k = p) w w0 := by rw [hw0]; exact (Kept.refl _ _).alloc _
  have HK0 := Lib.hid hk0
  have HR0 := HR.keptF (show Kept (fun _ => False) w w0 by rw [hw0]; exact (Kept.refl _ _).alloc _)
  obtain ⟨q, hq⟩ : ∃ q, q = w.heap.size := ⟨_, rfl⟩
  rw [← hq] at HQ0
  have HQP := Lib.hid (show q ≠ p by omega)
  have HQV := Lib.hid (show v.ownBlock ≠ some q from fun e => by have := (ownsRow_lt HR.owns e).1; omega)
  have HQW := Lib.hid (show w.heap.size ≤ q by omega)
  have HW0 := Lib.hid hw0
  have HQ := Lib.hid hq
  have HTT := Lib.hid fun w1 (k : Kept (fun k => k = p) w w1) => HT.keptS k (by omega)
  have HBW := Lib.hid fun w1 (k : Kept (fun k => k = p) w w1) => Nat.le_trans hB k.size
  rcases gotShape_cases (bs.drop t) with ⟨h2, e⟩ | ⟨h2, n, hn, hn2, a, ha, hrest⟩
  · rw [e]
    dsimp only
    have HT1 := Lib.hid (btake_no B p v bs t 5 _ HR0 (by omega) (.inr (.inr (by omega))))
    clear HR HR0 e hdl h2 HT hw0 hq hk0 hB
    go_enter Tryd.func91, Tryd.ntmps91
    go_upto_region 1 with fail
    rw [← HW0.out, ← HQ.out]
    go_wp2_with fail
    refine HT1.out.mono ?_
    rintro e w1 ⟨rfl, hb, hk⟩
    have HB1 := Lib.hid hb
    have HK1 := Lib.hid (HK0.out.trans hk)
    have HQ1 := Lib.hid (HQ0.out.same hk HQP.out)
    clear hb hk
    obtain ⟨f0, f1, f2, f3, f4⟩ := HQ1.out.f
    obtain ⟨c0, c1, c2, c3, c4⟩ := HQ1.out.c
    go_wp2
    try simp only [Exit.inBlock, Exit.then]
    refine sh_end Tryd.results91 (q := q) (h := ⟨0, 0, 0, 0, 0⟩) rfl rfl rfl (HQ1.out.set ⟨0, 0, 0, 0, 0⟩) ?_
    refine ⟨rfl, ?_, ?_⟩
    · exact HB1.out.kept (set5_kept w1 q _ _ _ _ _) (fun e => HQP.out e.symm) (fun k e e2 => HQV.out (by rw [e, e2]))
    · exact HK1.out.new (set5_kept w1 q _ _ _ _ _) HQW.out
  · have HT1 := btake_yes B p v bs t 5 _ HR0 (by omega) (by omega) (by omega)
    rw [← hn] at HT1
    have HT1 := Lib.hid HT1
    rw [List.drop_drop] at ha
    have HS1 := Lib.hid fun w1 (k : Kept (fun k => k = p) w w1) (b : BrAt w1 B p v bs (t + 5)) => getSide_any B p v bs (t + 5) w1 b (Nat.le_trans hB k.size) hB0 hl (HT.keptS k (by omega))
    rw [← ha] at HS1
    obtain ⟨a1, a2, a3, a4⟩ := a
    dsimp only at HS1 hrest
    rcases hrest with ⟨hae, e⟩ | ⟨hae, b, hb, e⟩
    · rw [e]
      dsimp only
      have q1 : ((a4 : Int) != 0) = true := bneT (by omega)
      clear HR HR0 e hdl h2 HT hw0 hq hk0 hB hn ha hae
      go_enter Tryd.func91, Tryd.ntmps91
      go_upto_region 1 with fail
      rw [← HW0.out, ← HQ.out]
      go_wp2_with fail
      refine HT1.out.mono ?_
      rintro e w1 ⟨rfl, hb, hk⟩
      have HB1 := Lib.hid hb
      have HK1 := Lib.hid (HK0.out.trans hk)
      have HQ1 := Lib.hid (HQ0.out.same hk HQP.out)
      clear hb hk
      go_wp2_with fail
      refine (HS1.out w1 HK1.out HB1.out).mono ?_
      rintro e w2 ⟨rfl, hb, hk⟩
      have HB2 := Lib.hid hb
      have HK2 := Lib.hid (HK1.out.trans hk)
      have HQ2 := Lib.hid (HQ1.out.same hk HQP.out)
      clear hb hk
      obtain ⟨f0, f1, f2, f3, f4⟩ := HQ2.out.f
      obtain ⟨c0, c1, c2, c3, c4⟩ := HQ2.out.c
      go_wp2
      try simp only [Exit.inBlock, Exit.then]
      refine sh_end Tryd.results91 (q := q) (h := ⟨0, 0, 0, 0, 0⟩) rfl rfl rfl (HQ2.out.set ⟨0, 0, 0, 0, 0⟩) ?_
      refine ⟨rfl, ?_, ?_⟩
      · rw [← Nat.add_assoc]
        exact HB2.out.kept (set5_kept w2 q _ _ _ _ _) (fun e => HQP.out e.symm) (fun k e e2 => HQV.out (by rw [e, e2]))
      · exact HK2.out.new (set5_kept w2 q _ _ _ _ _) HQW.out
    · rw [e]
      dsimp only at hae ⊢
      rw [List.drop_drop, ← Nat.add_assoc] at hb
      have HS2 := Lib.hid fun w1 (k : Kept (fun k => k = p) w w1) (b : BrAt w1 B p v bs (t + 5 + a3)) => getSide_any B p v bs (t + 5 + a3) w1 b (Nat.le_trans hB k.size) hB0 hl (HT.keptS k (by omega))
      rw [← hb] at HS2
      obtain ⟨b1, b2, b3, b4⟩ := b
      dsimp only at HS2 ⊢
      obtain rfl : a4 = 0 := hae
      have s3 : IntKind.i64.wrap (n : Int) = (n : Int) := IntWalk.i64_in _ ⟨by omega, by omega⟩
      have s4 : IntKind.i64.wrap ((n : Int) + -10) = (n : Int) - 10 := by rw [IntWalk.i64_in _ ⟨by omega, by omega⟩]; omega
      obtain ⟨sc, hsc⟩ : ∃ s, s = (n : Int) - 10 := ⟨_, rfl⟩
      rw [← hsc] at s4 ⊢
      clear HR HR0 e hdl h2 HT hw0 hq hk0 hB hn ha hb hsc
      go_enter Tryd.func91, Tryd.ntmps91
      go_upto_region 1 with fail
      rw [← HW0.out, ← HQ.out]
      go_wp2_with fail
      refine HT1.out.mono ?_
      rintro e w1 ⟨rfl, hb, hk⟩
      have HB1 := Lib.hid hb
      have HK1 := Lib.hid (HK0.out.trans hk)
      have HQ1 := Lib.hid (HQ0.out.same hk HQP.out)
      clear hb hk
      go_wp2_with fail
      refine (HS1.out w1 HK1.out HB1.out).mono ?_
      rintro e w2 ⟨rfl, hb, hk⟩
      have HB2 := Lib.hid hb
      have HK2 := Lib.hid (HK1.out.trans hk)
      have HQ2 := Lib.hid (HQ1.out.same hk HQP.out)
      clear hb hk
      go_wp2_with fail
      refine (HS2.out w2 HK2.out HB2.out).mono ?_
      rintro e w3 ⟨rfl, hb, hk⟩
      have HB3 := Lib.hid hb
      have HK3 := Lib.hid (HK2.out.trans hk)
      have HQ3 := Lib.hid (HQ2.out.same hk HQP.out)
      clear hb hk
      obtain ⟨f0, f1, f2, f3, f4⟩ := HQ3.out.f
      obtain ⟨c0, c1, c2, c3, c4⟩ := HQ3.out.c
      go_wp2
      try simp only [Exit.inBlock, Exit.then]
      refine sh_end Tryd.results91 (q := q) (h := ⟨sc, a1, a2, b1, b2⟩) rfl rfl rfl (HQ3.out.set ⟨sc, a1, a2, b1, b2⟩) ?_
      refine ⟨rfl, ?_, ?_⟩
      · rw [← Nat.add_assoc, ← Nat.add_assoc]
        exact HB3.out.kept (set5_kept w3 q _ _ _ _ _) (fun e => HQP.out e.symm) (fun k e e2 => HQV.out (by rw [e, e2]))
      · exact HK3.out.new (set5_kept w3 q _ _ _ _ _) HQW.out
end Go.Proofs.YtjpnfadmblmjbaaDoor
/- A region that draws its order, whose last operation changes what the others read: what the others read holds behind each of them, but not behind that one. -/
namespace Go.Proofs.YtjpnfadmblmjbaaDoor
open Go

section
variable {P : Program} {ops : Array Oper} {Q : Exit → Act → World → Prop} {md : Region.Mode} {S : World → Prop} {k : Nat}

/-- In whatever order the rest comes; S holds behind each but number k. -/
def AnyBut (P : Program) (md : Region.Mode) (ops : Array Oper) (Q : Exit → Act → World → Prop) (S : World → Prop) (k : Nat) : Nat → Array Bool → Act → World → Prop
  | 0, listed, a, w => Region.ready md ops listed = [] ∧ Q .normal a w
  | n + 1, listed, a, w =>
    (Region.ready md ops listed = [] → Q .normal a w) ∧
    ∀ i ∈ Region.ready md ops listed, wpOp P ops Q i (fun a' w' => (i ≠ k → S w') ∧ AnyBut P md ops Q S k n (listed.setIfInBounds i true) a' w') a w

theorem AnyBut.any : ∀ (n : Nat) (listed : Array Bool) (a : Act) (w : World), AnyBut P md ops Q S k n listed a w → wpAny P md ops Q n listed a w
  | 0, _, _, _, h => h
  | n + 1, _, _, _, h => ⟨h.1, fun i hi => wpOp_mono (fun _ _ x => AnyBut.any n _ _ _ x.2) (h.2 i hi)⟩

theorem listed_of_wait {i : Nat} {listed : Array Bool} (hk : Region.waitsFor md ops k i = true) (hr : k ∈ Region.ready md ops listed) : i ∉ Region.ready md ops listed := by
  intro hi
  obtain ⟨ok, hok, e, he, hb, rfl⟩ := Region.waitsFor_spec hk
  obtain ⟨_, ok', hok', hall⟩ := mem_ready.1 hr
  rw [hok] at hok'
  injection hok' with hok'
  subst hok'
  have h1 := hall e he hb
  have h0 := (mem_ready.1 hi).1
  by_cases hs : e.on < listed.size
  · simp [hs] at h0 h1
    rw [h0] at h1; cases h1
  · simp [Array.getElem?_eq_none (Nat.le_of_not_lt hs)] at h1

theorem AnyBut.first {i : Nat} {oi : Oper} {v : Value} (hi : ops[i]? = some oi) (hs : Region.noSelect ops = true) (hk : Region.waitsFor md ops k i = true)
    (hQ : ∀ c a w, Q (.panic c) (a.put oi.dst v) w → Q (.panic c) a w) :
    ∀ (n : Nat) (listed : Array Bool) (a : Act) (w : World), Region.free md ops listed i = true →
      i ∈ Region.ready md ops listed → YieldsIf P ops S oi v a → S w →
      AnyBut P md ops Q S k n (listed.setIfInBounds i true) (a.put oi.dst v) w → AnyBut P md ops Q S k (n + 1) listed a w := by
  intro n listed a w hf
  have hfree := Region.free_spec hi hf
  clear hf
  induction n generalizing listed a w with
  | zero =>
    intro hr hy hS H
    refine ⟨fun h => (by rw [h] at hr; cases hr), fun j hj => ?_⟩
    by_cases hji : j = i
    · subst hji; exact hy.wpOp hi hS ⟨fun _ => hS, H⟩
    · have := ready_mono hj hji
      rw [H.1] at this
      cases this
  | succ n ih =>
    intro hr hy hS H
    refine ⟨fun h => (by rw [h] at hr; cases hr), fun j hj => ?_⟩
    by_cases hji : j = i
    · subst hji; exact hy.wpOp hi hS ⟨fun _ => hS, H⟩
    have hjk : j ≠ k := fun e => by subst e; exact listed_of_wait hk hj hr
    obtain ⟨hjun, oj, hoj, _⟩ := mem_ready.1 hj
    have hnot : ∀ e ∈ oj.after, Region.binds md e = true → e.on ≠ i := fun e he hb heq => by
      have : Region.waitsFor md ops j i = true := by
        unfold Region.waitsFor
        rw [hoj]
        exact Array.any_eq_true'.2 ⟨e, he, by simp [hb, heq]⟩
      exact listed_of_wait this hj hr
    have hstep := wpOp_putIf hoj (hfree j oj hoj hji hjun hnot) (Region.noSelect_spec hs i oi · · hi) (Region.noSelect_spec hs j oj · · hoj) hQ hy (H.2 j (ready_mono hj hji))
    refine wpOp_mono (fun a' w' h3 => ⟨fun _ => h3.2.1 hjk, ih _ a' w' (fun m om hm hmi hun hno => ?_) (ready_mono hr (Ne.symm hji)) h3.1 (h3.2.1 hjk) ?_⟩) hstep
    · refine hfree m om hm hmi ?_ hno
      by_cases hjm : j = m
      · subst hjm; exact hjun
      · rw [getD_set_ne true hjm] at hun; exact hun
    · rw [Array.setIfInBounds_comm _ _ hji]
      exact h3.2.2

theorem AnyBut.take {i : Nat} {oi : Oper} {v : Value} {n : Nat} {listed : Array Bool} {a : Act} {w : World} (hi : ops[i]? = some oi)
    (hs : Region.noSelect ops = true) (hk : Region.waitsFor md ops k i = true) (hf : Region.free md ops listed i = true) (hr : (Region.ready md ops listed).contains i = true)
    (hQ : ∀ c a w, Q (.panic c) (a.put oi.dst v) w → Q (.panic c) a w) (hS : S w) (hy : YieldsIf P ops S oi v a)
    (h : AnyBut P md ops Q S k n (listed.setIfInBounds i true) (a.put oi.dst v) w) : AnyBut P md ops Q S k (n + 1) listed a w :=
  AnyBut.first hi hs hk hQ n listed a w hf (by simpa using hr) hy hS h

/-- The one operation that may come up now, that is not the last one. -/
theorem AnyBut.one {i : Nat} {o : Oper} {n : Nat} {listed : Array Bool} {a : Act} {w : World} (hr : Region.ready md ops listed = [i]) (ho : ops[i]? = some o)
    (h : ∀ K' : Act → World → Prop, Shut (∀ a w, S w → AnyBut P md ops Q S k n (listed.setIfInBounds i true) a w → K' a w) → if Region.wanted o (yielded ops a.tmps) = true then Oper.wp P o a w K' Q else K' (a.put o.dst undef) w) :
    AnyBut P md ops Q S k (n + 1) listed a w :=
  ⟨fun h0 => (by rw [hr] at h0; cases h0), fun j hj => by
    rw [hr] at hj
    obtain rfl := List.mem_singleton.1 hj
    exact wpOp_step ho (fun K' hK => h K' (fun a w hS hW => hK a w ⟨fun _ => hS, hW⟩))⟩

/-- The last one: behind it there is nothing left. -/
theorem AnyBut.last {o : Oper} {n : Nat} {listed : Array Bool} {a : Act} {w : World} (hr : Region.ready md ops listed = [k]) (ho : ops[k]? = some o) (hend : Region.ready md ops (listed.setIfInBounds k true) = [])
    (h : ∀ K' : Act → World → Prop, Shut (∀ a w, Q .normal a w → K' a w) → if Region.wanted o (yielded ops a.tmps) = true then Oper.wp P o a w K' Q else K' (a.put o.dst undef) w) :
    AnyBut P md ops Q S k (n + 1) listed a w :=
  ⟨fun h0 => (by rw [hr] at h0; cases h0), fun j hj => by
    rw [hr] at hj
    obtain rfl := List.mem_singleton.1 hj
    refine wpOp_step ho (fun K' hK => h K' (fun a w hQ => hK a w ⟨fun e => absurd rfl e, ?_⟩))
    cases n with
    | zero => exact ⟨hend, hQ⟩
    | succ n => exact ⟨fun _ => hQ, by rw [hend]; intro i hi; cases hi⟩⟩

/-- The beginning. -/
theorem AnyBut.start {id : Nat} {a : Act} {w : World} (hm : P.follows .mixedOrders = true)
    (h : AnyBut P .any ops Q S k ops.size (Array.replicate ops.size false) a w.drew) : (Code.region id ops true).wp P Q a w :=
  wp_region_any hm (AnyBut.any _ _ _ _ h)
end
end Go.Proofs.YtjpnfadmblmjbaaDoor
/- A region that draws its order: two operations that may come up now. -/
namespace Go.Proofs.YtjpnfadmblmjbaaDoor
open Go
section
variable {P : Program} {ops : Array Oper} {Q : Exit → Act → World → Prop} {md : Region.Mode} {S : World → Prop} {k : Nat}
theorem AnyBut.two {i j : Nat} {oi oj : Oper} {n : Nat} {listed : Array Bool} {a : Act} {w : World} (hr : Region.ready md ops listed = [i, j]) (hoi : ops[i]? = some oi) (hoj : ops[j]? = some oj)
    (h1 : ∀ K' : Act → World → Prop, Shut (∀ a w, S w → AnyBut P md ops Q S k n (listed.setIfInBounds i true) a w → K' a w) → if Region.wanted oi (yielded ops a.tmps) = true then Oper.wp P oi a w K' Q else K' (a.put oi.dst undef) w)
    (h2 : ∀ K' : Act → World → Prop, Shut (∀ a w, S w → AnyBut P md ops Q S k n (listed.setIfInBounds j true) a w → K' a w) → if Region.wanted oj (yielded ops a.tmps) = true then Oper.wp P oj a w K' Q else K' (a.put oj.dst undef) w) :
    AnyBut P md ops Q S k (n + 1) listed a w :=
  ⟨fun h0 => (by rw [hr] at h0; cases h0), fun m hm => by
    rw [hr] at hm
    rcases List.mem_cons.1 hm with rfl | hm
    · exact wpOp_step hoi (fun K' hK => h1 K' (fun a w hS hW => hK a w ⟨fun _ => hS, hW⟩))
    · obtain rfl := List.mem_singleton.1 hm
      exact wpOp_step hoj (fun K' hK => h2 K' (fun a w hS hW => hK a w ⟨fun _ => hS, hW⟩))⟩
theorem AnyBut.three {i j m : Nat} {oi oj om : Oper} {n : Nat} {listed : Array Bool} {a : Act} {w : World} (hr : Region.ready md ops listed = [i, j, m]) (hoi : ops[i]? = some oi) (hoj : ops[j]? = some oj) (hom : ops[m]? = some om)
    (h1 : ∀ K' : Act → World → Prop, Shut (∀ a w, S w → AnyBut P md ops Q S k n (listed.setIfInBounds i true) a w → K' a w) → if Region.wanted oi (yielded ops a.tmps) = true then Oper.wp P oi a w K' Q else K' (a.put oi.dst undef) w)
    (h2 : ∀ K' : Act → World → Prop, Shut (∀ a w, S w → AnyBut P md ops Q S k n (listed.setIfInBounds j true) a w → K' a w) → if Region.wanted oj (yielded ops a.tmps) = true then Oper.wp P oj a w K' Q else K' (a.put oj.dst undef) w)
    (h3 : ∀ K' : Act → World → Prop, Shut (∀ a w, S w → AnyBut P md ops Q S k n (listed.setIfInBounds m true) a w → K' a w) → if Region.wanted om (yielded ops a.tmps) = true then Oper.wp P om a w K' Q else K' (a.put om.dst undef) w) :
    AnyBut P md ops Q S k (n + 1) listed a w :=
  ⟨fun h0 => (by rw [hr] at h0; cases h0), fun x hx => by
    rw [hr] at hx
    rcases List.mem_cons.1 hx with rfl | hx
    · exact wpOp_step hoi (fun K' hK => h1 K' (fun a w hS hW => hK a w ⟨fun _ => hS, hW⟩))
    · rcases List.mem_cons.1 hx with rfl | hx
      · exact wpOp_step hoj (fun K' hK => h2 K' (fun a w hS hW => hK a w ⟨fun _ => hS, hW⟩))
      · obtain rfl := List.mem_singleton.1 hx
        exact wpOp_step hom (fun K' hK => h3 K' (fun a w hS hW => hK a w ⟨fun _ => hS, hW⟩))⟩
/-- S holds behind every one (k is none of them). -/
theorem AnyBut.firstS {i : Nat} {oi : Oper} {v : Value} (hi : ops[i]? = some oi) (hs : Region.noSelect ops = true) (hk : ops.size ≤ k)
    (hQ : ∀ c a w, Q (.panic c) (a.put oi.dst v) w → Q (.panic c) a w) :
    ∀ (n : Nat) (listed : Array Bool) (a : Act) (w : World), Region.free md ops listed i = true →
      i ∈ Region.ready md ops listed → YieldsIf P ops S oi v a → S w →
      AnyBut P md ops Q S k n (listed.setIfInBounds i true) (a.put oi.dst v) w → AnyBut P md ops Q S k (n + 1) listed a w := by
  intro n listed a w hf
  have hfree := Region.free_spec hi hf
  clear hf
  induction n generalizing listed a w with
  | zero =>
    intro hr hy hS H
    refine ⟨fun h => (by rw [h] at hr; cases hr), fun j hj => ?_⟩
    by_cases hji : j = i
    · subst hji; exact hy.wpOp hi hS ⟨fun _ => hS, H⟩
    · have := ready_mono hj hji
      rw [H.1] at this
      cases this
  | succ n ih =>
    intro hr hy hS H
    refine ⟨fun h => (by rw [h] at hr; cases hr), fun j hj => ?_⟩
    by_cases hji : j = i
    · subst hji; exact hy.wpOp hi hS ⟨fun _ => hS, H⟩
    obtain ⟨hjun, oj, hoj, _⟩ := mem_ready.1 hj
    have hjk : j ≠ k := fun e => by have := (Array.getElem?_eq_some_iff.1 hoj).1; omega
    have hnot : ∀ e ∈ oj.after, Region.binds md e = true → e.on ≠ i := fun e he hb heq => by
      have : Region.waitsFor md ops j i = true := by
        unfold Region.waitsFor
        rw [hoj]
        exact Array.any_eq_true'.2 ⟨e, he, by simp [hb, heq]⟩
      exact listed_of_wait this hj hr
    have hstep := wpOp_putIf hoj (hfree j oj hoj hji hjun hnot) (Region.noSelect_spec hs i oi · · hi) (Region.noSelect_spec hs j oj · · hoj) hQ hy (H.2 j (ready_mono hj hji))
    refine wpOp_mono (fun a' w' h3 => ⟨fun _ => h3.2.1 hjk, ih _ a' w' (fun m om hm hmi hun hno => ?_) (ready_mono hr (Ne.symm hji)) h3.1 (h3.2.1 hjk) ?_⟩) hstep
    · refine hfree m om hm hmi ?_ hno
      by_cases hjm : j = m
      · subst hjm; exact hjun
      · rw [getD_set_ne true hjm] at hun; exact hun
    · rw [Array.setIfInBounds_comm _ _ hji]
      exact h3.2.2
theorem AnyBut.takeS {i : Nat} {oi : Oper} {v : Value} {n : Nat} {listed : Array Bool} {a : Act} {w : World} (hi : ops[i]? = some oi)
    (hs : Region.noSelect ops = true) (hk : ops.size ≤ k) (hf : Region.free md ops listed i = true) (hr : (Region.ready md ops listed).contains i = true)
    (hQ : ∀ c a w, Q (.panic c) (a.put oi.dst v) w → Q (.panic c) a w) (hS : S w) (hy : YieldsIf P ops S oi v a)
    (h : AnyBut P md ops Q S k n (listed.setIfInBounds i true) (a.put oi.dst v) w) : AnyBut P md ops Q S k (n + 1) listed a w :=
  AnyBut.firstS hi hs hk hQ n listed a w hf (by simpa using hr) hy hS h
/-- Nothing is left. -/
theorem AnyBut.done {n : Nat} {listed : Array Bool} {a : Act} {w : World} (hr : Region.ready md ops listed = []) (h : Q .normal a w) : AnyBut P md ops Q S k n listed a w := by
  cases n with
  | zero => exact ⟨hr, h⟩
  | succ n => exact ⟨fun _ => h, by rw [hr]; intro i hi; cases hi⟩
end
end Go.Proofs.YtjpnfadmblmjbaaDoor
