/- Layer 16: what a point makes of a state, plainly (whole sums); what was summed, taken apart again. -/
import Derived.Test.YtiiibhdohlpodaaO5
namespace Go.Proofs.Ytiiibhdohlpodaa
open Go.RowKit

/-- What is wrong with a point's times behind a state's. -/
def lateC (s : StV) (x : Pnt) : Int := if x.time ≤ s.time then 9 else if x.start < s.time then 10 else 0
/-- A whole sum with a state's. -/
def moreW (s : StV) (x : Pnt) : Pnt :=
  if decide (IntKind.i64.wrap (s.whole + x.whole) < s.whole) ≠ decide (x.whole < 0) then { x with flags := 16 } else { x with whole := IntKind.i64.wrap (s.whole + x.whole), start := s.start }
/-- Why a point makes nothing of a state. -/
def stepC (s : StV) (x : Pnt) : Int := if takenE x 2 ≠ 0 then (takenE x 2 : Int) else if s.some = true then lateC s x else 0
/-- What comes of a point. -/
def outC (s : StV) (x : Pnt) : Pnt :=
  if s.some = false then { x with temp := 1, flags := 1 } else if s.time < x.start then { x with temp := 1, flags := 8 } else moreW s { x with temp := 1 }
/-- The points that are taken, each with what comes of it. -/
def playC : StV → List Pnt → List (Pnt × Pnt)
  | _, [] => []
  | s, x :: l => if stepC s x = 0 then (x, outC s x) :: playC (stOf (outC s x)) l else playC s l
/-- The state behind points. -/
def stCC : StV → List Pnt → StV
  | s, [] => s
  | s, x :: l => if stepC s x = 0 then stCC (stOf (outC s x)) l else stCC s l
theorem playC_snoc (l : List Pnt) : ∀ (s : StV) (x : Pnt), playC s (l ++ [x]) = playC s l ++ (if stepC (stCC s l) x = 0 then [(x, outC (stCC s l) x)] else []) ∧ stCC s (l ++ [x]) = if stepC (stCC s l) x = 0 then stOf (outC (stCC s l) x) else stCC s l := by
  induction l with
  | nil => intro s x; by_cases h : stepC s x = 0 <;> simp [playC, stCC, h]
  | cons y l ih =>
    intro s x
    rw [List.cons_append, playC, playC, stCC, stCC]
    by_cases h : stepC s y = 0
    · simp only [if_pos h, List.cons_append]
      exact ⟨by rw [(ih (stOf (outC s y)) x).1], (ih (stOf (outC s y)) x).2⟩
    · simp only [if_neg h]
      exact ih s x
theorem playC_len (l : List Pnt) : ∀ s : StV, (playC s l).length ≤ l.length := by
  induction l with
  | nil => intro s; exact Nat.le_refl _
  | cons y l ih =>
    intro s
    rw [playC]
    split
    · have := ih (stOf (outC s y)); rw [List.length_cons, List.length_cons]; omega
    · have := ih s; rw [List.length_cons]; omega
theorem playC_at (l : List Pnt) : ∀ (s : StV) (i : Nat) (p : Pnt × Pnt), (playC s l)[i]? = some p →
    p.1 ∈ l ∧ ∃ s', stepC s' p.1 = 0 ∧ p.2 = outC s' p.1 ∧ (i = 0 → s' = s) ∧ (∀ j, i = j + 1 → ∃ q, (playC s l)[j]? = some q ∧ s' = stOf q.2) := by
  induction l with
  | nil => intro s i p h; simp [playC] at h
  | cons y l ih =>
    intro s i p h
    rw [playC] at h ⊢
    by_cases hy : stepC s y = 0
    · rw [if_pos hy] at h ⊢
      cases i with
      | zero =>
        simp at h
        subst h
        exact ⟨List.mem_cons_self, s, hy, rfl, fun _ => rfl, fun j e => by omega⟩
      | succ i =>
        rw [List.getElem?_cons_succ] at h
        obtain ⟨hm, s', h1, h2, h3, h4⟩ := ih (stOf (outC s y)) i p h
        refine ⟨List.mem_cons_of_mem _ hm, s', h1, h2, fun e => by omega, fun j e => ?_⟩
        obtain rfl : j = i := by omega
        cases j with
        | zero => exact ⟨(y, outC s y), rfl, h3 rfl⟩
        | succ j =>
          obtain ⟨q, hq, he⟩ := h4 j rfl
          exact ⟨q, by rw [List.getElem?_cons_succ]; exact hq, he⟩
    · rw [if_neg hy] at h ⊢
      obtain ⟨hm, r⟩ := ih s i p h
      exact ⟨List.mem_cons_of_mem _ hm, r⟩
end Go.Proofs.Ytiiibhdohlpodaa
