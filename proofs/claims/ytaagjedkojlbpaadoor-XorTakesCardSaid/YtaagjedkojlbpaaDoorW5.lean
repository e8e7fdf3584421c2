/- Xor: what stands first among bits, plainly; rows of floats. -/
import Derived.Test.YtaagjedkojlbpaaDoorW1
import Derived.Test.YtaagjedkojlbpaaDoorVX
namespace Go.Proofs.YtaagjedkojlbpaaDoor
open Go.RowKit

/-- Bits in a new window. -/
def getY (f s F S y : Nat) : Nat × Nat × Nat × Nat × Nat :=
  if y = 0 then (0, 0, 3, f, s)
  else if (0 < s ∧ inW f s (outX F S y)) ∨ newF (outX F S y) ≠ F ∨ newS (outX F S y) ≠ S then (0, 0, 3, f, s)
  else (outX F S y, 13 + S, 0, F, S)
/-- A new window, and the bits in it. -/
def getN (f s F S : Nat) (l : List Bool) : Nat × Nat × Nat × Nat × Nat :=
  if 64 < F + S then (0, 0, 3, f, s)
  else if l.length - 13 < S then (0, 0, 2, f, s)
  else getY f s F S (numB ((l.drop 13).take S))
/-- What stands first among bits: the turned bits, how many bits they took, an error, and the window from then on. -/
def getX (f s : Nat) (l : List Bool) : Nat × Nat × Nat × Nat × Nat :=
  if l.length < 1 then (0, 0, 2, f, s)
  else if l.getD 0 false = false then (0, 1, 0, f, s)
  else if l.length < 2 then (0, 0, 2, f, s)
  else if l.getD 1 false = false then
    if s = 0 then (0, 0, 3, f, s)
    else if l.length - 2 < s then (0, 0, 2, f, s)
    else if numB ((l.drop 2).take s) = 0 then (0, 0, 3, f, s)
    else (outX f s (numB ((l.drop 2).take s)), 2 + s, 0, f, s)
  else if l.length < 13 then (0, 0, 2, f, s)
  else getN f s (numB ((l.drop 2).take 5)) (numB ((l.drop 7).take 6) + 1) l
theorem getX_cases (f s : Nat) (l : List Bool) (hok : okW f s) :
    (l.length = 0 ∧ getX f s l = (0, 0, 2, f, s)) ∨
    (1 ≤ l.length ∧ l.getD 0 false = false ∧ getX f s l = (0, 1, 0, f, s)) ∨
    (l.length = 1 ∧ l.getD 0 false = true ∧ getX f s l = (0, 0, 2, f, s)) ∨
    (2 ≤ l.length ∧ l.getD 0 false = true ∧ l.getD 1 false = false ∧
      ((s = 0 ∧ f = 0 ∧ getX f s l = (0, 0, 3, f, s)) ∨
       (1 ≤ s ∧ f + s ≤ 64 ∧ l.length - 2 < s ∧ getX f s l = (0, 0, 2, f, s)) ∨
       (1 ≤ s ∧ f + s ≤ 64 ∧ s ≤ l.length - 2 ∧ ∃ y, y = numB ((l.drop 2).take s) ∧ y < 2 ^ s ∧ ((y = 0 ∧ getX f s l = (0, 0, 3, f, s)) ∨ (y ≠ 0 ∧ getX f s l = (outX f s y, 2 + s, 0, f, s)))))) ∨
    (2 ≤ l.length ∧ l.length < 13 ∧ l.getD 0 false = true ∧ l.getD 1 false = true ∧ getX f s l = (0, 0, 2, f, s)) ∨
    (13 ≤ l.length ∧ l.getD 0 false = true ∧ l.getD 1 false = true ∧ ∃ F S, F = numB ((l.drop 2).take 5) ∧ S = numB ((l.drop 7).take 6) + 1 ∧ F ≤ 31 ∧ 1 ≤ S ∧ S ≤ 64 ∧
      ((64 < F + S ∧ getX f s l = (0, 0, 3, f, s)) ∨
       (F + S ≤ 64 ∧ l.length - 13 < S ∧ getX f s l = (0, 0, 2, f, s)) ∨
       (F + S ≤ 64 ∧ S ≤ l.length - 13 ∧ ∃ y, y = numB ((l.drop 13).take S) ∧ y < 2 ^ S ∧
         ((y = 0 ∧ getX f s l = (0, 0, 3, f, s)) ∨
          (y ≠ 0 ∧ ((0 < s ∧ inW f s (outX F S y)) ∨ newF (outX F S y) ≠ F ∨ newS (outX F S y) ≠ S) ∧ getX f s l = (0, 0, 3, f, s)) ∨
          (y ≠ 0 ∧ ¬ (0 < s ∧ inW f s (outX F S y)) ∧ newF (outX F S y) = F ∧ newS (outX F S y) = S ∧ getX f s l = (outX F S y, 13 + S, 0, F, S)))))) := by
  by_cases h1 : l.length < 1
  · exact .inl ⟨by omega, by unfold getX; rw [if_pos h1]⟩
  by_cases h2 : l.getD 0 false = false
  · exact .inr (.inl ⟨by omega, h2, by unfold getX; rw [if_neg h1, if_pos h2]⟩)
  have b0 : l.getD 0 false = true := by simpa using h2
  by_cases h3 : l.length < 2
  · exact .inr (.inr (.inl ⟨by omega, b0, by unfold getX; rw [if_neg h1, if_neg h2, if_pos h3]⟩))
  by_cases h4 : l.getD 1 false = false
  · refine .inr (.inr (.inr (.inl ⟨by omega, b0, h4, ?_⟩)))
    by_cases h5 : s = 0
    · exact .inl ⟨h5, by unfold okW at hok; omega, by unfold getX; rw [if_neg h1, if_neg h2, if_neg h3, if_pos h4, if_pos h5]⟩
    have hfs : f + s ≤ 64 := hok.le.2.2
    by_cases h6 : l.length - 2 < s
    · exact .inr (.inl ⟨by omega, hfs, h6, by unfold getX; rw [if_neg h1, if_neg h2, if_neg h3, if_pos h4, if_neg h5, if_pos h6]⟩)
    refine .inr (.inr ⟨by omega, hfs, by omega, _, rfl, numB_two _ _, ?_⟩)
    by_cases h7 : numB ((l.drop 2).take s) = 0
    · exact .inl ⟨h7, by unfold getX; rw [if_neg h1, if_neg h2, if_neg h3, if_pos h4, if_neg h5, if_neg h6, if_pos h7]⟩
    · exact .inr ⟨h7, by unfold getX; rw [if_neg h1, if_neg h2, if_neg h3, if_pos h4, if_neg h5, if_neg h6, if_neg h7]⟩
  have b1 : l.getD 1 false = true := by simpa using h4
  by_cases h5 : l.length < 13
  · exact .inr (.inr (.inr (.inr (.inl ⟨by omega, h5, b0, b1, by unfold getX; rw [if_neg h1, if_neg h2, if_neg h3, if_neg h4, if_pos h5]⟩))))
  have e : getX f s l = getN f s (numB ((l.drop 2).take 5)) (numB ((l.drop 7).take 6) + 1) l := by unfold getX; rw [if_neg h1, if_neg h2, if_neg h3, if_neg h4, if_neg h5]
  have hF := numB_two (l.drop 2) 5
  have hS := numB_two (l.drop 7) 6
  refine .inr (.inr (.inr (.inr (.inr ⟨by omega, b0, b1, _, _, rfl, rfl, by omega, by omega, by omega, ?_⟩))))
  rw [e]
  generalize numB ((l.drop 2).take 5) = F at *
  generalize numB ((l.drop 7).take 6) + 1 = S at *
  by_cases h6 : 64 < F + S
  · exact .inl ⟨h6, by unfold getN; rw [if_pos h6]⟩
  by_cases h7 : l.length - 13 < S
  · exact .inr (.inl ⟨by omega, h7, by unfold getN; rw [if_neg h6, if_pos h7]⟩)
  have e2 : getN f s F S l = getY f s F S (numB ((l.drop 13).take S)) := by unfold getN; rw [if_neg h6, if_neg h7]
  refine .inr (.inr ⟨by omega, by omega, _, rfl, numB_two _ _, ?_⟩)
  rw [e2]
  generalize numB ((l.drop 13).take S) = y
  by_cases h8 : y = 0
  · exact .inl ⟨h8, by unfold getY; rw [if_pos h8]⟩
  by_cases h9 : (0 < s ∧ inW f s (outX F S y)) ∨ newF (outX F S y) ≠ F ∨ newS (outX F S y) ≠ S
  · exact .inr (.inl ⟨h8, h9, by unfold getY; rw [if_neg h8, if_pos h9]⟩)
  · refine .inr (.inr ⟨h8, fun h => h9 (.inl h), ?_, ?_, by unfold getY; rw [if_neg h8, if_neg h9]⟩)
    · exact Classical.byContradiction fun h => h9 (.inr (.inl h))
    · exact Classical.byContradiction fun h => h9 (.inr (.inr h))
theorem getX_le (f s : Nat) (l : List Bool) (hok : okW f s) : (getX f s l).2.1 ≤ l.length ∧ (getX f s l).1 < 18446744073709551616 ∧ okW (getX f s l).2.2.2.1 (getX f s l).2.2.2.2 ∧ ((getX f s l).2.2.1 ≠ 0 → getX f s l = (0, 0, (getX f s l).2.2.1, f, s)) := by
  rcases getX_cases f s l hok with ⟨h, e⟩ | ⟨h, _, e⟩ | ⟨h, _, e⟩ | ⟨h, _, _, ⟨_, _, e⟩ | ⟨_, _, _, e⟩ | ⟨h1, h2, h3, y, _, hy, ⟨_, e⟩ | ⟨_, e⟩⟩⟩ | ⟨_, _, _, _, e⟩ | ⟨h, _, _, F, S, _, _, hF, hS, hS64, ⟨_, e⟩ | ⟨_, _, e⟩ | ⟨h2, h3, y, _, hy, ⟨_, e⟩ | ⟨_, _, e⟩ | ⟨_, _, _, _, e⟩⟩⟩ <;> rw [e]
  all_goals first | (refine ⟨?_, ?_, hok, ?_⟩ <;> simp <;> done) | skip
  · exact ⟨h, (show (0 : Nat) < _ by omega), hok, by simp⟩
  · exact ⟨by show 2 + s ≤ _; omega, outX_lt f s y h2 hy, hok, by simp⟩
  · exact ⟨by show 13 + S ≤ _; omega, outX_lt F S y h2 hy, .inr ⟨hS, hF, h2⟩, by simp⟩

theorem getX_put (f s x : Nat) (rest : List Bool) (hx : x < 18446744073709551616) (hok : okW f s) : getX f s ((putX f s x).1 ++ rest) = (x, (putX f s x).1.length, 0, (putX f s x).2.1, (putX f s x).2.2) := by
  have hle := hok.le
  rcases putX_cases f s x hx with ⟨h0, e⟩ | ⟨h0, h1, h2, e⟩ | ⟨h0, h1, ⟨h2, h3, h4⟩, e⟩
  · rw [e, h0]; rfl
  · rw [e]
    have hl := midB_length f s x
    have hm := mid_out f s x hx (by omega) h2
    have hd : (([true, false] ++ midB f s x ++ rest).drop 2).take s = midB f s x := by
      show (midB f s x ++ rest).take s = _
      exact List.take_left' hl
    have hn : numB (midB f s x) ≠ 0 := by
      intro h
      rw [h] at hm
      exact h0 (by rw [← hm]; unfold outX; simp)
    unfold getX
    rw [hd, hm, if_neg (by simp), if_neg (by simp), if_neg (by simp), if_pos (by simp), if_neg (by omega), if_neg (by simp; omega), if_neg hn]
    simp [hl]; omega
  · rw [e]
    have hin := new_in x hx h0
    have hl := midB_length (newF x) (newS x) x
    have hm := mid_out (newF x) (newS x) x hx (by omega) hin
    have hF : numB (bitsN (newF x) 5) = newF x := numB_bitsN _ 5 (by omega)
    have hS : numB (bitsN (newS x - 1) 6) = newS x - 1 := numB_bitsN _ 6 (by omega)
    have d1 : (([true, true] ++ bitsN (newF x) 5 ++ bitsN (newS x - 1) 6 ++ midB (newF x) (newS x) x ++ rest).drop 2).take 5 = bitsN (newF x) 5 := by
      simp only [List.append_assoc]
      rw [List.drop_left' (by rfl), List.take_left' (by rw [bitsN_length])]
    have d2 : (([true, true] ++ bitsN (newF x) 5 ++ bitsN (newS x - 1) 6 ++ midB (newF x) (newS x) x ++ rest).drop 7).take 6 = bitsN (newS x - 1) 6 := by
      rw [List.append_assoc, List.append_assoc, List.drop_left' (by simp), List.take_left' (by rw [bitsN_length])]
    have d3 : (([true, true] ++ bitsN (newF x) 5 ++ bitsN (newS x - 1) 6 ++ midB (newF x) (newS x) x ++ rest).drop 13).take (newS x) = midB (newF x) (newS x) x := by
      rw [List.append_assoc, List.drop_left' (by simp), List.take_left' hl]
    have hn : numB (midB (newF x) (newS x) x) ≠ 0 := by
      intro h
      rw [h] at hm
      exact h0 (by rw [← hm]; unfold outX; simp)
    have hlen : ([true, true] ++ bitsN (newF x) 5 ++ bitsN (newS x - 1) 6 ++ midB (newF x) (newS x) x ++ rest).length = 13 + newS x + rest.length := by
      simp [hl]; omega
    unfold getX
    rw [d1, d2, hF, hS, hlen, if_neg (by omega), if_neg (by simp), if_neg (by omega), if_neg (by simp), if_neg (by omega), show newS x - 1 + 1 = newS x by omega]
    unfold getN
    rw [if_neg (by omega), hlen, if_neg (by omega), d3]
    unfold getY
    rw [hm, if_neg hn, if_neg]
    · simp [hl]; omega
    · rintro (h | h | h)
      · exact h1 h
      · exact h rfl
      · exact h rfl

theorem head2 (l : List Bool) (h : 2 ≤ l.length) (a b : Bool) (ha : l.getD 0 false = a) (hb : l.getD 1 false = b) : l.take 2 = [a, b] := by
  match l, h with
  | x :: y :: l, _ => simp at ha hb; subst ha hb; rfl
theorem putX_got (f s : Nat) (l : List Bool) (hok : okW f s) (h : (getX f s l).2.2.1 = 0) : putX f s (getX f s l).1 = (l.take (getX f s l).2.1, (getX f s l).2.2.2.1, (getX f s l).2.2.2.2) := by
  rcases getX_cases f s l hok with ⟨_, e⟩ | ⟨h0, hb, e⟩ | ⟨_, _, e⟩ | ⟨h0, b0, b1, ⟨_, _, e⟩ | ⟨_, _, _, e⟩ | ⟨h1, h2, h3, y, hy, hy2, ⟨_, e⟩ | ⟨hy0, e⟩⟩⟩ | ⟨_, _, _, _, e⟩ | ⟨h0, b0, b1, F, S, hF, hS, hF2, hS1, hS2, ⟨_, e⟩ | ⟨_, _, e⟩ | ⟨h2, h3, y, hy, hy2, ⟨_, e⟩ | ⟨_, _, e⟩ | ⟨hy0, g1, g2, g3, e⟩⟩⟩
  all_goals first | (rw [e] at h; simp at h; done) | skip
  · rw [e]
    show putX f s 0 = (l.take 1, f, s)
    unfold putX; rw [if_pos rfl]
    match l, h0 with
    | a :: l, _ => simp at hb; subst hb; rfl
  · rw [e]
    show putX f s (outX f s y) = (l.take (2 + s), f, s)
    unfold putX
    rw [if_neg (fun h => hy0 ((outX_zero f s y).1 h)), if_pos ⟨by omega, outX_in f s y h2 hy2⟩, outX_mid, hy, bitsN_numB_take _ s (by rw [List.length_drop]; omega), List.take_add, head2 l h0 true false b0 b1]
  · rw [e]
    show putX f s (outX F S y) = (l.take (13 + S), F, S)
    unfold putX
    have q5 : bitsN F 5 = (l.drop 2).take 5 := by rw [hF]; exact bitsN_numB_take _ 5 (by rw [List.length_drop]; omega)
    have q6 : bitsN (S - 1) 6 = (l.drop 7).take 6 := by rw [hS, Nat.add_sub_cancel]; exact bitsN_numB_take _ 6 (by rw [List.length_drop]; omega)
    have qS : bitsN y S = (l.drop 13).take S := by rw [hy]; exact bitsN_numB_take _ S (by rw [List.length_drop]; omega)
    have t1 : l.take 13 = l.take 7 ++ (l.drop 7).take 6 := List.take_add (i := 7) (j := 6)
    have t2 : l.take 7 = l.take 2 ++ (l.drop 2).take 5 := List.take_add (i := 2) (j := 5)
    rw [if_neg (fun h => hy0 ((outX_zero F S y).1 h)), if_neg g1, g2, g3, outX_mid, q5, q6, qS, List.take_add, t1, t2, head2 l (by omega) true true b0 b1]

/-- The document's reading: what is told is put anew, and compared. -/
theorem refX_cases (f s : Nat) (l : List Bool) (hok : okW f s) :
    (l.length = 0 ∧ getX f s l = (0, 0, 2, f, s)) ∨
    (1 ≤ l.length ∧ l.getD 0 false = false ∧ getX f s l = (0, 1, 0, f, s)) ∨
    (l.length = 1 ∧ l.getD 0 false = true ∧ getX f s l = (0, 0, 2, f, s)) ∨
    (2 ≤ l.length ∧ l.getD 0 false = true ∧ l.getD 1 false = true ∧ l.length < 13 ∧ getX f s l = (0, 0, 2, f, s)) ∨
    (2 ≤ l.length ∧ l.getD 0 false = true ∧ ∃ A F S, ((l.getD 1 false = false ∧ A = 2 ∧ F = f ∧ S = s) ∨ (l.getD 1 false = true ∧ A = 13 ∧ F = numB ((l.drop 2).take 5) ∧ S = numB ((l.drop 7).take 6) + 1)) ∧ A ≤ l.length ∧ F ≤ 31 ∧ S ≤ 64 ∧
      (((S = 0 ∨ 64 < F + S) ∧ getX f s l = (0, 0, 3, f, s)) ∨
       (1 ≤ S ∧ F + S ≤ 64 ∧ l.length - A < S ∧ getX f s l = (0, 0, 2, f, s)) ∨
       (1 ≤ S ∧ F + S ≤ 64 ∧ S ≤ l.length - A ∧ ∃ x, x = outX F S (numB ((l.drop A).take S)) ∧ x < 18446744073709551616 ∧
         (((putX f s x).1 ≠ l.take (A + S) ∧ getX f s l = (0, 0, 3, f, s)) ∨ ((putX f s x).1 = l.take (A + S) ∧ getX f s l = (x, A + S, 0, (putX f s x).2.1, (putX f s x).2.2)))))) := by
  have key : ∀ x N, x < 18446744073709551616 → N ≤ l.length → (getX f s l = (0, 0, 3, f, s) ∨ (getX f s l).2.2.1 = 0 ∧ (getX f s l).1 = x ∧ (getX f s l).2.1 = N) →
      (((putX f s x).1 ≠ l.take N ∧ getX f s l = (0, 0, 3, f, s)) ∨ ((putX f s x).1 = l.take N ∧ getX f s l = (x, N, 0, (putX f s x).2.1, (putX f s x).2.2))) := by
    intro x N hx hN h
    rcases h with h | ⟨h1, h2, h3⟩
    · left
      refine ⟨fun e => ?_, h⟩
      have := getX_put f s x (l.drop N) hx hok
      rw [e, List.take_append_drop, h] at this
      injection this with _ this; injection this with _ this; injection this with this _; exact absurd this (by decide)
    · right
      have hg := putX_got f s l hok h1
      rw [h2, h3] at hg
      have e : (putX f s x).1 = l.take N := by rw [hg]
      refine ⟨e, ?_⟩
      have := getX_put f s x (l.drop N) hx hok
      rw [e, List.take_append_drop, List.length_take, Nat.min_eq_left hN] at this
      exact this
  rcases getX_cases f s l hok with ⟨h, e⟩ | ⟨h0, hb, e⟩ | ⟨h, hb, e⟩ | ⟨h0, b0, b1, ⟨h1, h2, e⟩ | ⟨h1, h2, h3, e⟩ | ⟨h1, h2, h3, y, hy, hy2, hr⟩⟩ | ⟨h0, h1, b0, b1, e⟩ | ⟨h0, b0, b1, F, S, hF, hS, hF2, hS1, hS2, ⟨h2, e⟩ | ⟨h2, h3, e⟩ | ⟨h2, h3, y, hy, hy2, hr⟩⟩
  · exact .inl ⟨h, e⟩
  · exact .inr (.inl ⟨h0, hb, e⟩)
  · exact .inr (.inr (.inl ⟨h, hb, e⟩))
  · exact .inr (.inr (.inr (.inr ⟨h0, b0, 2, f, s, .inl ⟨b1, rfl, rfl, rfl⟩, h0, hok.le.1, hok.le.2.1, .inl ⟨.inl h1, e⟩⟩)))
  · exact .inr (.inr (.inr (.inr ⟨h0, b0, 2, f, s, .inl ⟨b1, rfl, rfl, rfl⟩, h0, hok.le.1, hok.le.2.1, .inr (.inl ⟨h1, h2, h3, e⟩)⟩)))
  · refine .inr (.inr (.inr (.inr ⟨h0, b0, 2, f, s, .inl ⟨b1, rfl, rfl, rfl⟩, h0, hok.le.1, hok.le.2.1, .inr (.inr ⟨h1, h2, h3, _, rfl, outX_lt f s _ h2 (numB_two _ _), ?_⟩)⟩)))
    rw [← hy]
    refine key _ _ (outX_lt f s y h2 hy2) (by omega) ?_
    rcases hr with ⟨_, e⟩ | ⟨_, e⟩
    · exact .inl e
    · exact .inr (by rw [e]; exact ⟨rfl, rfl, rfl⟩)
  · exact .inr (.inr (.inr (.inl ⟨h0, b0, b1, h1, e⟩)))
  · exact .inr (.inr (.inr (.inr ⟨by omega, b0, 13, F, S, .inr ⟨b1, rfl, hF, hS⟩, h0, hF2, hS2, .inl ⟨.inr h2, e⟩⟩)))
  · exact .inr (.inr (.inr (.inr ⟨by omega, b0, 13, F, S, .inr ⟨b1, rfl, hF, hS⟩, h0, hF2, hS2, .inr (.inl ⟨hS1, h2, h3, e⟩)⟩)))
  · refine .inr (.inr (.inr (.inr ⟨by omega, b0, 13, F, S, .inr ⟨b1, rfl, hF, hS⟩, h0, hF2, hS2, .inr (.inr ⟨hS1, h2, h3, _, rfl, outX_lt F S _ h2 (numB_two _ _), ?_⟩)⟩)))
    rw [← hy]
    refine key _ _ (outX_lt F S y h2 hy2) (by omega) ?_
    rcases hr with ⟨_, e⟩ | ⟨_, _, e⟩ | ⟨_, _, _, _, e⟩
    · exact .inl e
    · exact .inl e
    · exact .inr (by rw [e]; exact ⟨rfl, rfl, rfl⟩)

/-- The bits of a row's next float, and the window from then on. -/
def nextP (n last f s v : Nat) : List Bool × Nat × Nat := if n = 0 then (bitsN v 64, f, s) else putX f s (v ^^^ last)
/-- What a row goes on with, among bits: the float, how many bits it took, an error, the window from then on. -/
def getP (n last f s : Nat) (l : List Bool) : Nat × Nat × Nat × Nat × Nat :=
  if n = 0 then (if l.length < 64 then (0, 0, 2, f, s) else (numB (l.take 64), 64, 0, f, s))
  else (if (getX f s l).2.2.1 = 0 then last ^^^ (getX f s l).1 else 0, (getX f s l).2.1, (getX f s l).2.2.1, (getX f s l).2.2.2.1, (getX f s l).2.2.2.2)
theorem xor_lt (a b : Nat) (ha : a < 18446744073709551616) (hb : b < 18446744073709551616) : a ^^^ b < 18446744073709551616 := Nat.xor_lt_two_pow (n := 64) ha hb
theorem xor_back (a b : Nat) : a ^^^ (b ^^^ a) = b := by rw [Nat.xor_comm b a, ← Nat.xor_assoc, Nat.xor_self, Nat.zero_xor]
theorem xor_back2 (a b : Nat) : (a ^^^ b) ^^^ a = b := by rw [Nat.xor_comm a b, Nat.xor_assoc, Nat.xor_self, Nat.xor_zero]
theorem getP_put (n last f s v : Nat) (rest : List Bool) (hv : v < 18446744073709551616) (hlast : last < 18446744073709551616) (hok : okW f s) :
    getP n last f s ((nextP n last f s v).1 ++ rest) = (v, (nextP n last f s v).1.length, 0, (nextP n last f s v).2.1, (nextP n last f s v).2.2) := by
  unfold getP nextP
  by_cases h0 : n = 0
  · rw [if_pos h0, if_pos h0, if_neg (by simp), List.take_left' (by rw [bitsN_length]), numB_bitsN v 64 (by rw [← p64]; exact hv)]
    simp
  · rw [if_neg h0, if_neg h0, getX_put f s _ rest (xor_lt _ _ hv hlast) hok]
    simp only [if_true, xor_back]
theorem nextP_got (n last f s : Nat) (l : List Bool) (hok : okW f s) (h : (getP n last f s l).2.2.1 = 0) :
    nextP n last f s (getP n last f s l).1 = (l.take (getP n last f s l).2.1, (getP n last f s l).2.2.2.1, (getP n last f s l).2.2.2.2) := by
  unfold getP nextP at *
  by_cases h0 : n = 0
  · rw [if_pos h0] at h ⊢
    rw [if_pos h0]
    by_cases h1 : l.length < 64
    · rw [if_pos h1] at h; simp at h
    · rw [if_neg h1]
      show (bitsN (numB (l.take 64)) 64, f, s) = (l.take 64, f, s)
      rw [bitsN_numB_take l 64 (by omega)]
  · rw [if_neg h0] at h ⊢
    rw [if_neg h0]
    have h2 : (getX f s l).2.2.1 = 0 := h
    simp only [if_pos h2, xor_back2]
    exact putX_got f s l hok h2
theorem getP_le (n last f s : Nat) (l : List Bool) (hlast : last < 18446744073709551616) (hok : okW f s) : (getP n last f s l).2.1 ≤ l.length ∧ (getP n last f s l).1 < 18446744073709551616 ∧ okW (getP n last f s l).2.2.2.1 (getP n last f s l).2.2.2.2 ∧ ((getP n last f s l).2.2.1 ≠ 0 → getP n last f s l = (0, 0, (getP n last f s l).2.2.1, f, s)) := by
  unfold getP
  by_cases h0 : n = 0
  · rw [if_pos h0]
    by_cases h1 : l.length < 64
    · rw [if_pos h1]; exact ⟨by simp, by simp, hok, by simp⟩
    · rw [if_neg h1]; exact ⟨by show 64 ≤ _; omega, Nat.lt_of_lt_of_le (numB_two l 64) (by decide), hok, by simp⟩
  · rw [if_neg h0]
    obtain ⟨a, b, c, d⟩ := getX_le f s l hok
    refine ⟨a, ?_, c, ?_⟩
    · show (if _ then _ else _) < _
      split
      · exact xor_lt _ _ hlast b
      · omega
    · intro h
      have h2 : (getX f s l).2.2.1 ≠ 0 := h
      rw [if_neg h2]
      have := d h2
      show (0, (getX f s l).2.1, (getX f s l).2.2.1, (getX f s l).2.2.2.1, (getX f s l).2.2.2.2) = (0, 0, (getX f s l).2.2.1, f, s)
      rw [this]
theorem nextP_ok (n last f s v : Nat) (hv : v < 18446744073709551616) (hlast : last < 18446744073709551616) (hok : okW f s) : okW (nextP n last f s v).2.1 (nextP n last f s v).2.2 := by
  unfold nextP
  by_cases h0 : n = 0
  · rw [if_pos h0]; exact hok
  · rw [if_neg h0]; exact putX_ok f s _ (xor_lt _ _ hv hlast) hok
theorem nextP_length (n last f s v : Nat) (hv : v < 18446744073709551616) (hlast : last < 18446744073709551616) (hok : okW f s) : 1 ≤ (nextP n last f s v).1.length ∧ (nextP n last f s v).1.length ≤ 77 := by
  unfold nextP
  by_cases h0 : n = 0
  · rw [if_pos h0]; simp
  · rw [if_neg h0]; exact putX_length f s _ (xor_lt _ _ hv hlast) hok

def lastN (l : List Nat) (i : Nat) : Nat := if i = 0 then 0 else l.getD (i - 1) 0
theorem lastN_succ (l : List Nat) (i : Nat) : lastN l (i + 1) = l.getD i 0 := by unfold lastN; rw [if_neg (by omega)]; rfl
theorem lastN_lt {l : List Nat} (hb : ∀ x ∈ l, x < 18446744073709551616) (i : Nat) : lastN l i < 18446744073709551616 := by
  unfold lastN
  split
  · decide
  · rw [List.getD_eq_getElem?_getD]
    by_cases h : i - 1 < l.length
    · rw [List.getElem?_eq_getElem h]; exact hb _ (List.getElem_mem h)
    · rw [List.getElem?_eq_none (by omega)]; decide
theorem getN_lt {l : List Nat} (hb : ∀ x ∈ l, x < 18446744073709551616) (i : Nat) : l.getD i 0 < 18446744073709551616 := by
  have := lastN_lt hb (i + 1); rw [lastN_succ] at this; exact this
/-- A row's window behind so many floats. -/
def winX (l : List Nat) : Nat → Nat × Nat
  | 0 => (0, 0)
  | i + 1 => (nextP i (lastN l i) (winX l i).1 (winX l i).2 (l.getD i 0)).2
/-- A row's bits. -/
def rowX (l : List Nat) : Nat → List Bool
  | 0 => []
  | i + 1 => rowX l i ++ (nextP i (lastN l i) (winX l i).1 (winX l i).2 (l.getD i 0)).1
theorem winX_ok {l : List Nat} (hb : ∀ x ∈ l, x < 18446744073709551616) (i : Nat) : okW (winX l i).1 (winX l i).2 := by
  induction i with
  | zero => exact .inl ⟨rfl, rfl⟩
  | succ i ih => exact nextP_ok _ _ _ _ _ (getN_lt hb i) (lastN_lt hb i) ih
theorem rowX_length {l : List Nat} (hb : ∀ x ∈ l, x < 18446744073709551616) (i : Nat) : (rowX l i).length ≤ 77 * i := by
  induction i with
  | zero => simp [rowX]
  | succ i ih =>
    have := nextP_length i _ _ _ _ (getN_lt hb i) (lastN_lt hb i) (winX_ok hb i)
    simp only [rowX, List.length_append]; omega
theorem rowX_length1 {l : List Nat} (hb : ∀ x ∈ l, x < 18446744073709551616) (i : Nat) : i = 0 ∨ 63 + i ≤ (rowX l i).length := by
  induction i with
  | zero => exact .inl rfl
  | succ i ih =>
    right
    have := nextP_length i _ _ _ _ (getN_lt hb i) (lastN_lt hb i) (winX_ok hb i)
    simp only [rowX, List.length_append]
    rcases ih with rfl | ih
    · simp [nextP]
    · omega
theorem lastN_append (a b : List Nat) (i : Nat) (h : i ≤ a.length) : lastN (a ++ b) i = lastN a i := by
  unfold lastN
  split
  · rfl
  · rw [List.getD_eq_getElem?_getD, List.getD_eq_getElem?_getD, List.getElem?_append_left (by omega)]
theorem getD_appendN (a b : List Nat) (i : Nat) (h : i < a.length) : (a ++ b).getD i 0 = a.getD i 0 := by
  rw [List.getD_eq_getElem?_getD, List.getD_eq_getElem?_getD, List.getElem?_append_left h]
theorem winX_append (a b : List Nat) (i : Nat) (h : i ≤ a.length) : winX (a ++ b) i = winX a i := by
  induction i with
  | zero => rfl
  | succ i ih => simp only [winX]; rw [ih (by omega), lastN_append a b i (by omega), getD_appendN a b i (by omega)]
theorem rowX_append (a b : List Nat) (i : Nat) (h : i ≤ a.length) : rowX (a ++ b) i = rowX a i := by
  induction i with
  | zero => rfl
  | succ i ih => simp only [rowX]; rw [ih (by omega), winX_append a b i (by omega), lastN_append a b i (by omega), getD_appendN a b i (by omega)]
theorem rowX_snoc (a : List Nat) (x : Nat) : rowX (a ++ [x]) (a.length + 1) = rowX a a.length ++ (nextP a.length (lastN a a.length) (winX a a.length).1 (winX a a.length).2 x).1 ∧ winX (a ++ [x]) (a.length + 1) = (nextP a.length (lastN a a.length) (winX a a.length).1 (winX a a.length).2 x).2 := by
  have e : (a ++ [x]).getD a.length 0 = x := by simp [List.getD_eq_getElem?_getD]
  constructor
  · simp only [rowX]; rw [rowX_append a [x] _ (Nat.le_refl _), winX_append a [x] _ (Nat.le_refl _), lastN_append a [x] _ (Nat.le_refl _), e]
  · simp only [winX]; rw [winX_append a [x] _ (Nat.le_refl _), lastN_append a [x] _ (Nat.le_refl _), e]
/-- The same float again and again. -/
theorem rowX_same (v n : Nat) : (rowX (List.replicate n v) n).length = if n = 0 then 0 else 63 + n := by
  have hw : ∀ i, i ≤ n → winX (List.replicate n v) i = (0, 0) ∧ (rowX (List.replicate n v) i).length = if i = 0 then 0 else 63 + i := by
    intro i hi
    induction i with
    | zero => exact ⟨rfl, rfl⟩
    | succ i ih =>
      obtain ⟨h1, h2⟩ := ih (by omega)
      have e : (List.replicate n v).getD i 0 = v := by simp [List.getD_eq_getElem?_getD, show i < n by omega]
      simp only [winX, rowX, h1, e, List.length_append, h2]
      by_cases h0 : i = 0
      · subst h0; exact ⟨rfl, by simp [nextP]⟩
      · have el : lastN (List.replicate n v) i = v := by
          unfold lastN; rw [if_neg h0]
          simp [List.getD_eq_getElem?_getD, show i - 1 < n by omega]
        rw [el]
        have : nextP i v 0 0 v = ([false], 0, 0) := by unfold nextP; rw [if_neg h0, Nat.xor_self]; rfl
        rw [this]
        refine ⟨rfl, ?_⟩
        rw [if_neg h0, if_neg (by omega)]; simp; omega
  exact (hw n (Nat.le_refl _)).2
end Go.Proofs.YtaagjedkojlbpaaDoor
