/- A slice of bools that came in. -/
import Derived.Test.YtaagjedkojlbpaaDoorL3
import Derived.Test.YtaagjedkojlbpaaDoorB1
import Derived.Deep.Grids
namespace Go.Proofs.YtaagjedkojlbpaaDoor
open Go.ChangeShapes Go.WideShapes Go.ChangeAt Go.RowKit

/-- A slice of bools that came in: nil; or it leads to a row of 'cap' cells. -/
def IsBools (w : World) (a : Option Addr) (len cap : Nat) : Prop :=
  (a = none ∧ len = 0 ∧ cap = 0) ∨ ∃ (x : Addr) (B : Nat → Bool), a = some x ∧ len ≤ cap ∧ cap ≤ maxLen ∧ ∀ i, i < cap → w.cell? (x.add i) = some (.bool (B i))
theorem isBools_of {H : Type} {enc : TypeId × Value → H} {P : Program} {T E : TypeId} {W : World} {a : Option Addr} {len cap : Nat} {d : DataW H} {p : List MemPlace} {sp : Nat}
    (hT : P.underlying T = some (.slice E)) (hE : P.underlying E = some .bool) (hc : P.cellsOf E = 1) (h : DataW.Trod enc P W sp (fun _ => true) true T (.slice a len cap) d p) : IsBools W a len cap := by
  obtain ⟨fuel, hf⟩ := h
  rcases Go.Deep.open_bools hT hE hc hf with ⟨hcs, _⟩ | ⟨x, l, c, B, hcs, _, hl, hm, _, hcell⟩
  · simp [Value.cells] at hcs
    obtain ⟨rfl, rfl, rfl⟩ := hcs
    exact .inl ⟨rfl, rfl, rfl⟩
  · simp [Value.cells] at hcs
    obtain ⟨rfl, rfl, rfl⟩ := hcs
    exact .inr ⟨x, B, rfl, hl, hm, hcell⟩
/-- Bools as values. -/
def bools (l : List Bool) : List Value := l.map Value.bool
@[simp] theorem bools_length (l : List Bool) : (bools l).length = l.length := by simp [bools]
theorem bools_get {l : List Bool} {j : Nat} (h : j < l.length) : (bools l)[j]? = some (.bool (l.getD j false)) := by
  simp [bools, List.getD_eq_getElem?_getD, List.getElem?_eq_getElem h]
theorem IsBools.slAt {w : World} {a : Option Addr} {len cap : Nat} (h : IsBools w a len cap) : ∃ l : List Bool, l.length = len ∧ SlAt w (.slice a len cap) (bools l) := by
  rcases h with ⟨rfl, rfl, rfl⟩ | ⟨x, B, rfl, hlc, _, hcell⟩
  · exact ⟨[], rfl, ⟨none, 0, rfl, fun _ => rfl, by simp⟩⟩
  · refine ⟨(List.range len).map B, by simp, ⟨some x, cap, by simp, (fun e => by cases e), ?_⟩⟩
    intro a ha j u hu
    cases ha
    have hj : j < len := by
      have := (List.getElem?_eq_some_iff.1 hu).1
      simp at this; omega
    rw [hcell j (by omega)]
    simpa [bools, List.getElem?_map, hj] using hu
end Go.Proofs.YtaagjedkojlbpaaDoor
