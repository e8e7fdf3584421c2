/- Histograms, plainly: what is wrong with a side, a total; a side more coarsely. -/
namespace Go.Proofs.YtjpnfadmblmjbaaDoor

/-- What is wrong with a side. -/
def sideE (o : Int) (l : List Nat) : Nat :=
  if 160 < l.length then 4
  else if l.length = 0 then (if o = 0 then 0 else 3)
  else if l.getD 0 0 = 0 ∨ l.getD (l.length - 1) 0 = 0 then 3
  else if o < -1073741824 ∨ 1073741824 < o + ((l.length : Nat) : Int) - 1 then 1 else 0
/-- A sum, if 64 bits hold it. -/
def sumN (a : Nat) (l : List Nat) : Nat := a + l.sum
theorem sumN_nil (a : Nat) : sumN a [] = a := by simp [sumN]
theorem sumN_cons (a x : Nat) (l : List Nat) : sumN a (x :: l) = sumN (a + x) l := by simp [sumN]; omega
theorem sumN_take (a : Nat) (l : List Nat) (i : Nat) (h : i < l.length) : sumN a (l.take (i + 1)) = sumN a (l.take i) + l.getD i 0 := by
  have e : l.getD i 0 = l[i] := by rw [List.getD_eq_getElem?_getD, List.getElem?_eq_getElem h]; rfl
  rw [List.take_succ_eq_append_getElem h, e]
  unfold sumN
  rw [List.sum_append, List.sum_singleton]; omega
theorem sumN_le (a : Nat) (l : List Nat) (i : Nat) : sumN a (l.take i) ≤ sumN a l := by
  have : l.sum = (l.take i).sum + (l.drop i).sum := by rw [← List.sum_append, List.take_append_drop]
  unfold sumN; omega

/-- A histogram. -/
structure HistV where
  sc : Int
  ze : Nat
  po : Int
  pl : List Nat
  no : Int
  nl : List Nat
def HistV.total (h : HistV) : Nat := sumN (sumN h.ze h.pl) h.nl
/-- What is wrong with a histogram. -/
def HistV.err (h : HistV) : Nat :=
  if h.sc < -10 ∨ 20 < h.sc then 1
  else if sideE h.po h.pl ≠ 0 then sideE h.po h.pl
  else if sideE h.no h.nl ≠ 0 then sideE h.no h.nl
  else if 18446744073709551616 ≤ h.total then 4 else 0
/-- The numbers that a histogram's fields may be. -/
structure HistV.ok (h : HistV) : Prop where
  sc : -9223372036854775808 ≤ h.sc ∧ h.sc ≤ 9223372036854775807
  ze : h.ze < 18446744073709551616
  po : -9223372036854775808 ≤ h.po ∧ h.po ≤ 9223372036854775807
  pl : ∀ x ∈ h.pl, x < 18446744073709551616
  no : -9223372036854775808 ≤ h.no ∧ h.no ≤ 9223372036854775807
  nl : ∀ x ∈ h.nl, x < 18446744073709551616
end Go.Proofs.YtjpnfadmblmjbaaDoor
