/- Layer 32, plainly: pieces of patterns, how a text is parted into them, and what they match. -/
import Derived.Test.YtjbjfdmdicfjfaaSX
namespace Go.Proofs.Ytjbjfdmdicfjfaa

/-- A piece: 0 a byte for itself, 1 any byte, 2 a byte of a set, 3 any bytes. -/
structure Pc where
  k : Nat
  c : Nat
  f : Nat → Bool
/-- Is a byte what a piece stands for? -/
def Pc.hold (p : Pc) (x : Nat) : Bool := if p.k = 0 then decide (p.c = x) else if p.k = 2 then p.f x else decide (p.k = 1)
def noF : Nat → Bool := fun _ => false

/-- The byte with which a text begins, and how many bytes it has. -/
def byteL (l : List Nat) : Nat × Nat := if l.getD 0 0 = 92 then (if l.length = 1 then (0, 2) else (l.getD 1 0, 2)) else (l.getD 0 0, 1)
theorem byteL_pos (l : List Nat) : 1 ≤ (byteL l).2 ∧ (byteL l).2 ≤ 2 := by unfold byteL; split <;> (try split) <;> simp
/-- How many bytes stand ahead of the next ] . -/
def endL : List Nat → Option Nat
  | [] => none
  | c :: t => if c = 93 then some 0 else if c = 92 then (match t with | [] => none | _ :: u => (endL u).map (· + 2)) else (endL t).map (· + 1)
/-- The thing with which a set's rest begins: from which byte to which, and how many bytes it has. -/
def thingL (l : List Nat) : Option (Nat × Nat × Nat) :=
  if l.getD 0 0 = 45 then (if l.length = 1 then some (45, 45, 1) else none)
  else if (l.drop (byteL l).2).length < 2 ∨ (l.drop (byteL l).2).getD 0 0 ≠ 45 ∨ (l.drop (byteL l).2).getD 1 0 = 45 then some ((byteL l).1, (byteL l).1, (byteL l).2)
  else if (byteL l).1 ≤ (byteL ((l.drop (byteL l).2).drop 1)).1 then some ((byteL l).1, (byteL ((l.drop (byteL l).2).drop 1)).1, (byteL l).2 + 1 + (byteL ((l.drop (byteL l).2).drop 1)).2)
  else none
theorem thingL_pos {l : List Nat} {a b n : Nat} (h : thingL l = some (a, b, n)) : 1 ≤ n := by
  have hb := byteL_pos l
  unfold thingL at h
  split at h
  · split at h
    · cases h; omega
    · cases h
  · split at h
    · cases h; exact hb.1
    · split at h
      · cases h; omega
      · cases h
/-- A set with all bytes from one to another. -/
def orF (f : Nat → Bool) (a b : Nat) : Nat → Bool := fun x => f x || decide (a ≤ x ∧ x ≤ b)
/-- The things of a set: its bytes, or the place of the first that isn't right. -/
inductive Th
  | bad (at_ : Nat)
  | good (f : Nat → Bool)
/-- So many things at most. -/
def thingsL : Nat → List Nat → (Nat → Bool) → Nat → Th
  | 0, _, f, _ => .good f
  | k + 1, l, f, o => if l = [] then .good f else match thingL l with | none => .bad o | some (a, b, n) => thingsL k (l.drop n) (orF f a b) (o + n)
theorem thingsL_more (k : Nat) : ∀ (j : Nat) (l : List Nat) (f : Nat → Bool) (o : Nat), l.length ≤ k → k ≤ j → thingsL j l f o = thingsL k l f o := by
  induction k with
  | zero =>
    intro j l f o hl hj
    obtain rfl : l = [] := List.length_eq_zero_iff.1 (by omega)
    cases j with
    | zero => rfl
    | succ j => rfl
  | succ k ih =>
    intro j l f o hl hj
    cases j with
    | zero => omega
    | succ j =>
      unfold thingsL
      by_cases h0 : l = []
      · rw [if_pos h0, if_pos h0]
      · rw [if_neg h0, if_neg h0]
        cases ht : thingL l with
        | none => rfl
        | some r =>
          obtain ⟨a, b, n⟩ := r
          have hn := thingL_pos ht
          have hp : 0 < l.length := List.length_pos_iff.2 h0
          exact ih j _ _ _ (by rw [List.length_drop]; omega) (by omega)
/-- All of a set's things. -/
def thingsA (l : List Nat) (f : Nat → Bool) (o : Nat) : Th := thingsL l.length l f o
theorem thingsA_nil (f : Nat → Bool) (o : Nat) : thingsA [] f o = .good f := rfl
theorem thingsA_bad {l : List Nat} (f : Nat → Bool) (o : Nat) (h0 : l ≠ []) (h : thingL l = none) : thingsA l f o = .bad o := by
  unfold thingsA
  cases l with
  | nil => exact absurd rfl h0
  | cons c t => show thingsL (t.length + 1) _ _ _ = _; unfold thingsL; rw [if_neg h0, h]
theorem thingsA_step {l : List Nat} {a b n : Nat} (f : Nat → Bool) (o : Nat) (h0 : l ≠ []) (h : thingL l = some (a, b, n)) : thingsA l f o = thingsA (l.drop n) (orF f a b) (o + n) := by
  have hn := thingL_pos h
  unfold thingsA
  cases l with
  | nil => exact absurd rfl h0
  | cons c t =>
    show thingsL (t.length + 1) _ _ _ = _
    rw [thingsL, if_neg h0, h]
    exact thingsL_more _ _ _ _ _ (Nat.le_refl _) (by rw [List.length_drop, List.length_cons]; omega)

/-- A piece that was read and how many bytes it has, or how far in the fault is, and the error. -/
inductive Nx
  | bad (at_ : Nat) (e : Nat)
  | good (p : Pc) (n : Nat)
def setFrom (l : List Nat) : Nat := if l.getD 1 0 = 33 then 2 else 1
/-- The set with which a text begins. -/
def setL (l : List Nat) : Nx :=
  match endL (l.drop 1) with
  | none => .bad 0 2
  | some e =>
    if setFrom l = 1 + e then .bad 0 3
    else match thingsA ((l.take (1 + e)).drop (setFrom l)) noF (setFrom l) with
    | .bad o => .bad o 3
    | .good f => .good ⟨2, 0, if l.getD 1 0 = 33 then fun x => !f x else f⟩ (1 + e + 1)
/-- The piece with which a text begins. -/
def nextL (l : List Nat) : Nx :=
  if l.getD 0 0 = 42 then .good ⟨3, 0, noF⟩ 1
  else if l.getD 0 0 = 63 then .good ⟨1, 0, noF⟩ 1
  else if l.getD 0 0 = 91 then setL l
  else if l.length < (byteL l).2 then .bad 0 2
  else .good ⟨0, (byteL l).1, noF⟩ (byteL l).2
theorem endL_lt : ∀ {l : List Nat} {e : Nat}, endL l = some e → e < l.length
  | [], e, h => by simp [endL] at h
  | c :: t, e, h => by
    unfold endL at h
    split at h
    · cases h; simp
    · split at h
      · cases t with
        | nil => cases h
        | cons d u =>
          dsimp only at h
          cases hu : endL u with
          | none => rw [hu] at h; cases h
          | some x =>
            rw [hu] at h
            cases h
            have := endL_lt hu
            simp; omega
      · cases hu : endL t with
        | none => rw [hu] at h; cases h
        | some x =>
          rw [hu] at h
          cases h
          have := endL_lt hu
          simp; omega
theorem nextL_pos {l : List Nat} {p : Pc} {n : Nat} (h0 : l ≠ []) (h : nextL l = .good p n) : 1 ≤ n ∧ n ≤ l.length := by
  have hp : 0 < l.length := List.length_pos_iff.2 h0
  have hb := byteL_pos l
  unfold nextL at h
  split at h
  · cases h; omega
  split at h
  · cases h; omega
  split at h
  · unfold setL at h
    split at h
    · cases h
    · rename_i e he
      have := endL_lt he
      rw [List.length_drop] at this
      split at h
      · cases h
      · split at h
        · cases h
        · cases h; omega
  split at h
  · cases h
  · cases h; omega
/-- A pattern's pieces, or the place and the error of a fault. -/
inductive Rs
  | bad (at_ : Nat) (e : Nat)
  | good (L : List Pc)
def Rs.pre (A : List Pc) : Rs → Rs
  | .bad a e => .bad a e
  | .good L => .good (A ++ L)
theorem Rs.pre_pre (A B : List Pc) (r : Rs) : (r.pre B).pre A = r.pre (A ++ B) := by cases r <;> simp [Rs.pre]
theorem Rs.pre_nil (r : Rs) : r.pre [] = r := by cases r <;> simp [Rs.pre]
def compL : Nat → List Nat → Nat → Rs
  | 0, _, _ => .good []
  | k + 1, l, o => if l = [] then .good [] else match nextL l with | .bad a e => .bad (o + a) e | .good p n => (compL k (l.drop n) (o + n)).pre [p]
theorem compL_more (k : Nat) : ∀ (j : Nat) (l : List Nat) (o : Nat), l.length ≤ k → k ≤ j → compL j l o = compL k l o := by
  induction k with
  | zero =>
    intro j l o hl hj
    obtain rfl : l = [] := List.length_eq_zero_iff.1 (by omega)
    cases j with
    | zero => rfl
    | succ j => rfl
  | succ k ih =>
    intro j l o hl hj
    cases j with
    | zero => omega
    | succ j =>
      unfold compL
      by_cases h0 : l = []
      · rw [if_pos h0, if_pos h0]
      · rw [if_neg h0, if_neg h0]
        cases ht : nextL l with
        | bad => rfl
        | good p n =>
          have hn := nextL_pos h0 ht
          have hp : 0 < l.length := List.length_pos_iff.2 h0
          refine congrArg (Rs.pre [p]) (ih j _ _ ?_ (by omega))
          rw [List.length_drop]; omega
/-- All of a text's pieces. -/
def compA (l : List Nat) (o : Nat) : Rs := compL l.length l o
theorem compA_nil (o : Nat) : compA [] o = .good [] := rfl
theorem compA_bad {l : List Nat} {a e : Nat} (o : Nat) (h0 : l ≠ []) (h : nextL l = .bad a e) : compA l o = .bad (o + a) e := by
  unfold compA
  cases l with
  | nil => exact absurd rfl h0
  | cons c t => show compL (t.length + 1) _ _ = _; unfold compL; rw [if_neg h0, h]
theorem compA_step {l : List Nat} {p : Pc} {n : Nat} (o : Nat) (h0 : l ≠ []) (h : nextL l = .good p n) : compA l o = (compA (l.drop n) (o + n)).pre [p] := by
  have hn := nextL_pos h0 h
  unfold compA
  cases l with
  | nil => exact absurd rfl h0
  | cons c t =>
    show compL (t.length + 1) _ _ = _
    rw [compL, if_neg h0, h]
    refine congrArg (Rs.pre [p]) (compL_more _ _ _ _ (Nat.le_refl _) ?_)
    rw [List.length_drop, List.length_cons]; omega

/-- What pieces match. -/
def mt : List Pc → List Nat → Bool
  | [], [] => true
  | [], _ :: _ => false
  | p :: P, [] => decide (p.k = 3) && mt P []
  | p :: P, c :: t => if p.k = 3 then mt P (c :: t) || mt (p :: P) t else p.hold c && mt P t
termination_by P l => P.length + l.length
theorem mt_many {p : Pc} (P : List Pc) (l : List Nat) (h : p.k = 3) : mt (p :: P) l = true ↔ ∃ j, j ≤ l.length ∧ mt P (l.drop j) = true := by
  induction l with
  | nil =>
    rw [mt, decide_eq_true h, Bool.true_and]
    exact ⟨fun e => ⟨0, Nat.le_refl _, e⟩, fun ⟨j, hj, e⟩ => by simpa using e⟩
  | cons c t ih =>
    rw [mt, if_pos h, Bool.or_eq_true, ih]
    constructor
    · rintro (e | ⟨j, hj, e⟩)
      · exact ⟨0, Nat.zero_le _, e⟩
      · exact ⟨j + 1, by simpa using hj, by simpa using e⟩
    · rintro ⟨j, hj, e⟩
      cases j with
      | zero => exact .inl e
      | succ j => exact .inr ⟨j, by simpa using hj, by simpa using e⟩
theorem mt_one {p : Pc} (P : List Pc) (l : List Nat) (h : p.k ≠ 3) : mt (p :: P) l = true ↔ ∃ c t, l = c :: t ∧ p.hold c = true ∧ mt P t = true := by
  cases l with
  | nil =>
    rw [mt, decide_eq_false h]
    simp
  | cons c t =>
    rw [mt, if_neg h, Bool.and_eq_true]
    constructor
    · intro e; exact ⟨c, t, rfl, e⟩
    · rintro ⟨c', t', e, h'⟩; cases e; exact h'
theorem mt_nil (l : List Nat) : mt [] l = true ↔ l = [] := by cases l <;> simp [mt]
theorem mt_append (A B : List Pc) : ∀ l : List Nat, mt (A ++ B) l = true ↔ ∃ j, j ≤ l.length ∧ mt A (l.take j) = true ∧ mt B (l.drop j) = true := by
  induction A with
  | nil =>
    intro l
    constructor
    · intro e; exact ⟨0, Nat.zero_le _, by rw [List.take_zero, mt], e⟩
    · rintro ⟨j, hj, h1, h2⟩
      rw [mt_nil] at h1
      have : j = 0 := by
        have h3 := congrArg List.length h1
        rw [List.length_take, List.length_nil] at h3
        omega
      subst this
      exact h2
  | cons p P ih =>
    intro l
    rw [List.cons_append]
    by_cases h : p.k = 3
    · rw [mt_many _ _ h]
      constructor
      · rintro ⟨i, hi, e⟩
        obtain ⟨j, hj, h1, h2⟩ := (ih _).1 e
        rw [List.length_drop] at hj
        refine ⟨i + j, by omega, (mt_many _ _ h).2 ⟨i, by rw [List.length_take]; omega, ?_⟩, by rwa [List.drop_drop] at h2⟩
        rw [List.drop_take, Nat.add_sub_cancel_left]; exact h1
      · rintro ⟨j, hj, h1, h2⟩
        obtain ⟨i, hi, e⟩ := (mt_many _ _ h).1 h1
        rw [List.length_take] at hi
        refine ⟨i, by omega, (ih _).2 ⟨j - i, by rw [List.length_drop]; omega, by rwa [List.drop_take] at e, ?_⟩⟩
        rw [List.drop_drop, show i + (j - i) = j by omega]; exact h2
    · rw [mt_one _ _ h]
      constructor
      · rintro ⟨c, t, rfl, hc, e⟩
        obtain ⟨j, hj, h1, h2⟩ := (ih _).1 e
        exact ⟨j + 1, by simpa using hj, (mt_one _ _ h).2 ⟨c, t.take j, rfl, hc, h1⟩, h2⟩
      · rintro ⟨j, hj, h1, h2⟩
        obtain ⟨c, t, e, hc, e2⟩ := (mt_one _ _ h).1 h1
        cases l with
        | nil => simp at e
        | cons d u =>
          cases j with
          | zero => simp at e
          | succ j =>
            simp at e
            obtain ⟨rfl, rfl⟩ := e
            exact ⟨d, u, rfl, hc, (ih _).2 ⟨j, by simpa using hj, e2, by simpa using h2⟩⟩
end Go.Proofs.Ytjbjfdmdicfjfaa
