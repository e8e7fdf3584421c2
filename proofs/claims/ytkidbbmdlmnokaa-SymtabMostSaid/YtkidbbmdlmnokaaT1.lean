/- Layer 34, plainly: texts in order, what they share, the bytes of a table. -/
import Derived.Test.YtkidbbmdlmnokaaPK
import Derived.Test.YtkidbbmdlmnokaaSX
import Derived.Test.YtkidbbmdlmnokaaQ8
namespace Go.Proofs.Ytkidbbmdlmnokaa
open Go.RowKit

/-- Is a text not above another one? As the program compares. -/
def leS (a b : ByteArray) : Bool := Op.bytesLess a.toList b.toList || a.toList == b.toList
/-- How many bytes two texts begin with alike. -/
def comm : List Nat → List Nat → Nat
  | x :: a, y :: b => if x = y then comm a b + 1 else 0
  | _, _ => 0
theorem comm_le : ∀ (a b : List Nat), comm a b ≤ a.length ∧ comm a b ≤ b.length
  | [], _ => by simp [comm]
  | _ :: _, [] => by simp [comm]
  | x :: a, y :: b => by
    unfold comm
    have := comm_le a b
    split <;> simp <;> omega
theorem comm_at : ∀ (a b : List Nat) (n : Nat), n < comm a b → a.getD n 0 = b.getD n 0
  | [], _, _, h => by simp [comm] at h
  | _ :: _, [], _, h => by simp [comm] at h
  | x :: a, y :: b, n, h => by
    unfold comm at h
    split at h
    · rename_i e
      cases n with
      | zero => simpa using e
      | succ n => simpa using comm_at a b n (by omega)
    · omega
theorem comm_stop : ∀ (a b : List Nat), comm a b < a.length → comm a b < b.length → a.getD (comm a b) 0 ≠ b.getD (comm a b) 0
  | [], _, h, _ => by simp at h
  | _ :: _, [], _, h => by simp at h
  | x :: a, y :: b, h1, h2 => by
    unfold comm at h1 h2 ⊢
    split at h1
    · rename_i e
      rw [if_pos e] at h2 ⊢
      have := comm_stop a b (by simpa using h1) (by simpa using h2)
      simpa using this
    · rename_i e
      rw [if_neg e]
      simpa using e
theorem comm_is {a b : List Nat} {n : Nat} (h1 : n ≤ a.length) (h2 : n ≤ b.length) (he : ∀ j, j < n → a.getD j 0 = b.getD j 0) (hs : n = a.length ∨ n = b.length ∨ a.getD n 0 ≠ b.getD n 0) : comm a b = n := by
  have hl := comm_le a b
  rcases Nat.lt_trichotomy (comm a b) n with h | h | h
  · exact absurd (he _ h) (comm_stop a b (by omega) (by omega))
  · exact h
  · rcases hs with hs | hs | hs
    · omega
    · omega
    · exact absurd (comm_at a b n h) hs
/-- What the text at a place shares with the one ahead. -/
def shr (i : Nat) (a s : ByteArray) : Nat := if i % 8 = 0 then 0 else comm (bl a) (bl s)
theorem shr_le (i : Nat) (a s : ByteArray) : shr i a s ≤ s.size ∧ shr i a s ≤ a.size := by
  have := comm_le (bl a) (bl s)
  rw [bl_length, bl_length] at this
  unfold shr
  split <;> omega
/-- A text's bytes in a table. -/
def recB (i : Nat) (a s : ByteArray) : List Int := numB (shr i a s : Nat) ++ numB ((s.extract (shr i a s) s.size).size : Nat) ++ strB (s.extract (shr i a s) s.size)
/-- The error, or the bytes of texts behind one. -/
def bldL : Nat → ByteArray → List ByteArray → Int × List Int
  | _, _, [] => (0, [])
  | i, a, s :: t => if 400 < s.size then (4, []) else if 0 < i ∧ leS s a = true then (9, []) else if (bldL (i + 1) s t).1 ≠ 0 then ((bldL (i + 1) s t).1, []) else (0, recB i a s ++ (bldL (i + 1) s t).2)
/-- With bytes ahead. -/
def preB (acc : List Int) (r : Int × List Int) : Int × List Int := if r.1 ≠ 0 then (r.1, []) else (0, acc ++ r.2)
theorem preB_nil {r : Int × List Int} (h : r.1 ≠ 0 → r.2 = []) : preB [] r = r := by
  unfold preB
  obtain ⟨e, b⟩ := r
  simp only at h ⊢
  split
  · rename_i h1; rw [h h1]
  · rename_i h1
    rw [List.nil_append, Classical.not_not.1 h1]
theorem preB_preB (a b : List Int) (r : Int × List Int) : preB a (preB b r) = preB (a ++ b) r := by
  unfold preB
  by_cases h : r.1 = 0
  · simp [h]
  · simp [h]
theorem bldL_fault : ∀ (L : List ByteArray) (i : Nat) (a : ByteArray), (bldL i a L).1 ≠ 0 → (bldL i a L).2 = []
  | [], _, _, h => by simp [bldL] at h
  | s :: t, i, a, h => by
    unfold bldL at h ⊢
    split
    · rfl
    · rename_i h1
      rw [if_neg h1] at h
      split
      · rfl
      · rename_i h2
        rw [if_neg h2] at h
        split
        · rfl
        · rename_i h3
          rw [if_neg h3] at h
          simp at h
theorem bldL_step {i : Nat} {a s : ByteArray} {t : List ByteArray} (h1 : ¬ 400 < s.size) (h2 : ¬ (0 < i ∧ leS s a = true)) : bldL i a (s :: t) = preB (recB i a s) (bldL (i + 1) s t) := by
  rw [bldL, if_neg h1, if_neg h2]; rfl
theorem bldL_large {i : Nat} {a s : ByteArray} {t : List ByteArray} (h1 : 400 < s.size) : bldL i a (s :: t) = (4, []) := by rw [bldL, if_pos h1]
theorem bldL_order {i : Nat} {a s : ByteArray} {t : List ByteArray} (h1 : ¬ 400 < s.size) (h2 : 0 < i ∧ leS s a = true) : bldL i a (s :: t) = (9, []) := by rw [bldL, if_neg h1, if_pos h2]
/-- The error, or a table's bytes. -/
def buildS (L : List ByteArray) : Int × List Int := if 4096 < L.length then (4, []) else preB (numB (L.length : Nat)) (bldL 0 ByteArray.empty L)
/-- The text ahead of a place. -/
def aheadS (L : List ByteArray) (i : Nat) : ByteArray := if i = 0 then ByteArray.empty else L.getD (i - 1) ByteArray.empty
theorem recB_len (i : Nat) (a s : ByteArray) (hs : s.size ≤ 400) : (recB i a s).length ≤ 418 := by
  have h1 := numB_len ((shr i a s : Nat) : Int)
  have h2 := numB_len (((s.extract (shr i a s) s.size).size : Nat) : Int)
  unfold recB
  rw [List.length_append, List.length_append, strB_length, size_from]
  rw [size_from] at h2
  omega
end Go.Proofs.Ytkidbbmdlmnokaa
