/- Layer 15: what a point makes of a state, plainly (whole sums). -/
import Derived.Test.YtiiibhdohlpodaaPP
namespace Go.Proofs.Ytiiibhdohlpodaa
open Go.RowKit

/-- A state. -/
structure StV where
  some : Bool
  start : Int
  time : Int
  whole : Int
  re : Int
  im : Int
  h : HistV
/-- A state's cells. -/
def stC (s : StV) (pv nv : Value) : Array Value := #[.bool s.some, .int .i64 s.start, .int .i64 s.time, .int .i64 s.whole, .int .u64 s.re, .int .u64 s.im,
  .int .i64 s.h.sc, .int .u64 (s.h.ze : Int), .int .i64 s.h.po, pv, .int .i64 s.h.no, nv]
def zeroHV : HistV := ⟨0, 0, 0, [], 0, []⟩
def zeroSt : StV := ⟨false, 0, 0, 0, 0, 0, zeroHV⟩
def zeroPt : Pnt := ⟨{ data := #[] }, [], 0, 0, false, 0, 0, 0, 0, 0, zeroHV, 0⟩
/-- What is wrong with a point's times behind a state's. -/
def lateI (s : StV) (x : Pnt) : Int := if x.time ≤ s.time then 9 else if x.start < s.start ∨ (s.start < x.start ∧ x.start < s.time) then 10 else 0
/-- The flags of an epoch that begins. -/
def movedI (s : StV) (x : Pnt) : Int := if s.some = false then 1 else if x.start ≤ s.start then 0 else if x.start ≤ s.time then 2 else 10
/-- A whole sum less a state's. -/
def lessW (s : StV) (x : Pnt) : Pnt :=
  if x.mono = true ∧ x.whole < s.whole then { x with flags := 4 } else
  if decide (IntKind.i64.wrap (x.whole - s.whole) < x.whole) ≠ decide (0 < s.whole) then { x with flags := 16 } else { x with whole := IntKind.i64.wrap (x.whole - s.whole) }
/-- Why a point isn't taken. -/
def takenE (x : Pnt) (temp : Int) : Nat := if chk x ≠ 0 then chk x else if x.temp ≠ temp then 14 else if x.flags ≠ 0 then 3 else 0
/-- Why a point makes nothing of a state. -/
def stepE (s : StV) (x : Pnt) : Int := if takenE x 1 ≠ 0 then (takenE x 1 : Int) else if s.some = true then lateI s x else 0
/-- The state behind a point. -/
def stOf (x : Pnt) : StV := ⟨true, x.start, x.time, x.whole, x.re, x.im, x.h⟩
/-- What comes of a point of whole sums. -/
def outW (s : StV) (x : Pnt) : Pnt :=
  if movedI s x = 0 then lessW s { x with temp := 2, flags := 0, start := s.time } else { x with temp := 2, flags := movedI s x }
/-- The points that are taken, each with what comes of it. -/
def playW : StV → List Pnt → List (Pnt × Pnt)
  | _, [] => []
  | s, x :: l => if stepE s x = 0 then (x, outW s x) :: playW (stOf x) l else playW s l
/-- The state behind points. -/
def stW : StV → List Pnt → StV
  | s, [] => s
  | s, x :: l => if stepE s x = 0 then stW (stOf x) l else stW s l
theorem playW_snoc (l : List Pnt) : ∀ (s : StV) (x : Pnt), playW s (l ++ [x]) = playW s l ++ (if stepE (stW s l) x = 0 then [(x, outW (stW s l) x)] else []) ∧ stW s (l ++ [x]) = if stepE (stW s l) x = 0 then stOf x else stW s l := by
  induction l with
  | nil => intro s x; by_cases h : stepE s x = 0 <;> simp [playW, stW, h]
  | cons y l ih =>
    intro s x
    rw [List.cons_append, playW, playW, stW, stW]
    by_cases h : stepE s y = 0
    · simp only [if_pos h, List.cons_append]
      exact ⟨by rw [(ih (stOf y) x).1], (ih (stOf y) x).2⟩
    · simp only [if_neg h]
      exact ih s x
theorem playW_len (l : List Pnt) : ∀ s : StV, (playW s l).length ≤ l.length := by
  induction l with
  | nil => intro s; exact Nat.le_refl _
  | cons y l ih =>
    intro s
    rw [playW]
    split
    · have := ih (stOf y); rw [List.length_cons, List.length_cons]; omega
    · have := ih s; rw [List.length_cons]; omega
/-- A point that was taken: by the state behind the one ahead. -/
theorem playW_at (l : List Pnt) : ∀ (s : StV) (i : Nat) (p : Pnt × Pnt), (playW s l)[i]? = some p →
    p.1 ∈ l ∧ ∃ s', stepE s' p.1 = 0 ∧ p.2 = outW s' p.1 ∧ (i = 0 → s' = s) ∧ (∀ j, i = j + 1 → ∃ q, (playW s l)[j]? = some q ∧ s' = stOf q.1) := by
  induction l with
  | nil => intro s i p h; simp [playW] at h
  | cons y l ih =>
    intro s i p h
    rw [playW] at h ⊢
    by_cases hy : stepE s y = 0
    · rw [if_pos hy] at h ⊢
      cases i with
      | zero =>
        simp at h
        subst h
        exact ⟨List.mem_cons_self, s, hy, rfl, fun _ => rfl, fun j e => by omega⟩
      | succ i =>
        rw [List.getElem?_cons_succ] at h
        obtain ⟨hm, s', h1, h2, h3, h4⟩ := ih (stOf y) i p h
        refine ⟨List.mem_cons_of_mem _ hm, s', h1, h2, fun e => by omega, fun j e => ?_⟩
        obtain rfl : j = i := by omega
        cases j with
        | zero => exact ⟨(y, outW s y), rfl, h3 rfl⟩
        | succ j =>
          obtain ⟨q, hq, he⟩ := h4 j rfl
          exact ⟨q, by rw [List.getElem?_cons_succ]; exact hq, he⟩
    · rw [if_neg hy] at h ⊢
      obtain ⟨hm, r⟩ := ih s i p h
      exact ⟨List.mem_cons_of_mem _ hm, r⟩
/-- What is told of one answer of whole sums: what was, the answer. -/
theorem outW_sum {s : StV} {x : Pnt} (hx : I64 x.whole) (hs : I64 s.whole) (he : stepE s x = 0) :
    (((outW s x).flags ≠ 0 ∧ (outW s x).whole = x.whole) ∨ ((outW s x).flags = 0 ∧ s.some = true ∧ s.whole + (outW s x).whole = x.whole)) ∧
    ((outW s x).flags = 4 ↔ (s.some = true ∧ x.start = s.start ∧ x.mono = true ∧ x.whole < s.whole)) ∧ I64 (outW s x).whole := by
  unfold I64 at *
  have hw := IntKind.wrap_i64
  unfold outW
  unfold stepE lateI at he
  by_cases hsm : s.some = false
  · have hm : movedI s x = 1 := by unfold movedI; rw [if_pos hsm]
    rw [hm, if_neg (by decide)]
    exact ⟨.inl ⟨by simp, rfl⟩, ⟨fun h => by simp at h, fun h => by rw [hsm] at h; exact absurd h.1 (by decide)⟩, hx⟩
  · have hst : s.some = true := by simpa using hsm
    rw [if_pos hst] at he
    have hstart : s.start ≤ x.start := by
      split at he
      · omega
      · split at he
        · omega
        · split at he
          · omega
          · rename_i h; omega
    by_cases h1 : x.start ≤ s.start
    · have hm : movedI s x = 0 := by unfold movedI; rw [if_neg hsm, if_pos h1]
      rw [if_pos hm]
      unfold lessW
      dsimp only
      by_cases h2 : x.mono = true ∧ x.whole < s.whole
      · rw [if_pos h2]
        exact ⟨.inl ⟨by simp, rfl⟩, ⟨fun _ => ⟨hst, by omega, h2.1, h2.2⟩, fun _ => rfl⟩, hx⟩
      · rw [if_neg h2]
        have hf : ¬ (s.some = true ∧ x.start = s.start ∧ x.mono = true ∧ x.whole < s.whole) := fun h => h2 ⟨h.2.2.1, h.2.2.2⟩
        by_cases h3 : decide (IntKind.i64.wrap (x.whole - s.whole) < x.whole) ≠ decide (0 < s.whole)
        · rw [if_pos h3]
          exact ⟨.inl ⟨by simp, rfl⟩, ⟨fun h => by simp at h, fun h => absurd h hf⟩, hx⟩
        · rw [if_neg h3]
          have h4 : (IntKind.i64.wrap (x.whole - s.whole) < x.whole) ↔ (0 < s.whole) := by
            have := Decidable.not_not.1 h3
            simpa using this
          rw [hw] at h4
          refine ⟨.inr ⟨rfl, hst, ?_⟩, ⟨fun h => by simp at h, fun h => absurd h hf⟩, ?_⟩
          · show s.whole + IntKind.i64.wrap (x.whole - s.whole) = x.whole
            rw [hw]; omega
          · show -9223372036854775808 ≤ IntKind.i64.wrap (x.whole - s.whole) ∧ IntKind.i64.wrap (x.whole - s.whole) ≤ 9223372036854775807
            rw [hw]; omega
    · have hm : movedI s x = 2 ∨ movedI s x = 10 := by
        unfold movedI
        rw [if_neg hsm, if_neg h1]
        split
        · exact .inl rfl
        · exact .inr rfl
      rw [if_neg (by omega)]
      exact ⟨.inl ⟨by show movedI s x ≠ 0; omega, rfl⟩, ⟨fun h => by have h' : movedI s x = 4 := h; omega, fun h => by omega⟩, hx⟩
end Go.Proofs.Ytiiibhdohlpodaa
