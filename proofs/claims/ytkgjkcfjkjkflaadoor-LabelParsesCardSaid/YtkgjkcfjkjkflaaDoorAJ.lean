/- Layer 11: attributes in a slice that came in; what the listed variables give (nothing is wanted of them). -/
import Derived.Test.YtkgjkcfjkjkflaaDoorRows
import Derived.Test.YtkgjkcfjkjkflaaDoorAI
import Derived.Test.YtkgjkcfjkjkflaaDoorR1
import Derived.Test.YtkgjkcfjkjkflaaDoorR2
import Derived.Lib.LaidTab
import Derived.LaidMore
import Derived.Lay
import Derived.LaidOnce
import Derived.LaidLaws
import Derived.Stop.Joined
import Derived.Deep.Slices
import Derived.Deep.Fields
import Derived.ChangeSame
namespace Go.Proofs.YtkgjkcfjkjkflaaDoor
open Go.ChangeShapes Go.WideShapes Go.ChangeAt Go.Deep Go.RowKit

theorem door_met11 (os : Os) (args : Array Value) : laidMetH Tryd.prog Rows.labelTextsRow.laid ((World.laidAll Tryd.prog os Rows.labelTextsRow.laid).forCall (fun _ _ => 0) ⟨#[], args, []⟩).memory := by
  rw [MakeChecks.laidMetH_plain _ _ _ (by kernel_rfl)]
  exact laidMet_laidAll _ (by kernel_rfl) (by kernel_rfl)
theorem lay_shaped (os : Os) : (World.laidAll Tryd.prog os Rows.labelTextsRow.laid).Shaped Tryd.prog := World.shaped_of_ZipB (by kernel_rfl) (by kernel_rfl)
def NoTab (_ : World) : Prop := True
theorem notab_of_laid {W : World} {p : Prop} (_ : p) : NoTab W := trivial
/-- Attributes that came in. -/
structure PairsIn (W : World) (ao : Option Addr) (cap : Nat) (L : List Pr) : Prop where
  at_ : PsAt W ao L
  sh : Sh maxLen L
  cap : L.length ≤ cap

theorem pair_at_cells {H : Type} {enc : TypeId × Value → H} {W : World} {sp n : Nat} {c0 c1 : Value} {y : DataW H × List MemPlace} (hf : DataW.trod enc Tryd.prog W sp (fun _ => true) true n 40 [c0, c1] = some y) :
    ∃ p : Pr, (c0 = .string p.k ∧ c1 = .string p.v) ∧ p.k.size ≤ maxLen ∧ p.v.size ≤ maxLen := by
  obtain ⟨y0, y1, m, _, _, h0, h1⟩ := trod_struct2 Tryd.underlying40 (cs := [c0, c1]) hf
  have k0 : Tryd.prog.cellsOf 9 = 1 := by kernel_rfl
  simp only [k0, List.drop_zero, List.drop_succ_cons, List.take_succ_cons, List.take_zero] at h0 h1
  obtain ⟨s, e0, _, w0⟩ := DataW.trod_string Tryd.underlying9 h0
  obtain ⟨t, e1, _, w1⟩ := DataW.trod_string Tryd.underlying9 h1
  injection e0 with e0 _
  injection e1 with e1 _
  subst e0 e1
  exact ⟨⟨s, t⟩, ⟨rfl, rfl⟩, w0, w1⟩

set_option maxRecDepth 100000 in
theorem pairs_of {H : Type} {enc : TypeId × Value → H} {W : World} {sp : Nat} {a : Option Addr} {len cap : Nat} {d : DataW H} {p : List MemPlace}
    (h : DataW.Trod enc Tryd.prog W sp (fun _ => true) true 22 (.slice a len cap) d p) : ∃ L : List Pr, L.length = len ∧ PairsIn W a cap L ∧ len ≤ cap ∧ len ≤ 9223372036854775807 := by
  obtain ⟨fuel, hf⟩ := h
  have k2 : Tryd.prog.cellsOf 40 = 2 := by kernel_rfl
  rcases open_slice Tryd.underlying22 hf with ⟨hcs, _⟩ | ⟨x, l, c, m, n, D, Pl, hcs, _, hl, hm, hmm, _, hi⟩
  · simp [Value.cells] at hcs
    obtain ⟨rfl, rfl, rfl⟩ := hcs
    exact ⟨[], rfl, ⟨fun h => absurd h (by simp), fun p hp => (by cases hp), Nat.zero_le _⟩, Nat.le_refl _, by omega⟩
  · simp [Value.cells] at hcs
    obtain ⟨rfl, rfl, rfl⟩ := hcs
    unfold maxLen at hm
    rcases Nat.eq_zero_or_pos len with h0 | h0
    · subst h0
      exact ⟨[], rfl, ⟨fun h => absurd h (by simp), fun p hp => (by cases hp), Nat.zero_le _⟩, by omega, by omega⟩
    · have key0 : ∀ i, i < len → ∃ q : Pr, (∀ j u, (([.string q.k, .string q.v] : List Value)[j]? = some u) → W.cell? (x.add (i * 2 + j)) = some u) ∧ q.k.size ≤ maxLen ∧ q.v.size ≤ maxLen := by
        intro i hi'
        obtain ⟨cs', hc, ht'⟩ := hi i (by simp at hmm; omega)
        rw [k2] at hc
        obtain ⟨hlen, hcl, hat⟩ := World.cells?_some hc
        match cs', hcl with
        | [c0, c1], _ =>
          obtain ⟨q, ⟨e0, e1⟩, hq⟩ := pair_at_cells ht'
          subst e0 e1
          refine ⟨q, fun j u hj => ?_, hq⟩
          have hj2 : j < 2 := by
            have := (List.getElem?_eq_some_iff.1 hj).1
            simpa using this
          have := hat j hj2
          rw [Go.Deep.add_add] at this
          rw [this]
          exact hj
      obtain ⟨g, o, spot⟩ := x
      have hspot : spot = Option.none := by
        obtain ⟨q, hq, _⟩ := key0 0 h0
        have c0 := hq 0 _ rfl
        simpa [Addr.add] using World.cell?_spot c0
      subst hspot
      have key : ∀ i, i < len → ∃ q : Pr, PElt W g (o + i * 2) q ∧ q.k.size ≤ maxLen ∧ q.v.size ≤ maxLen := by
        intro i hi'
        obtain ⟨q, hq, h1⟩ := key0 i hi'
        refine ⟨q, ⟨?_, ?_⟩, h1⟩
        · have := hq 0 _ rfl; rwa [Go.WideShapes.add_plain] at this
        · have := hq 1 _ rfl; rwa [Go.WideShapes.add_plain] at this
      obtain ⟨rs, hrs, hp⟩ := choose_list key
      refine ⟨rs, hrs, ⟨fun _ => ⟨g, o, rfl, fun i p hi => (hp i p hi).1⟩, fun p hpm => ?_, by omega⟩, hl, by omega⟩
      obtain ⟨i, hi, e⟩ := List.getElem_of_mem hpm
      exact (hp i p (by rw [List.getElem?_eq_getElem hi, e])).2
theorem labelTexts_walk (name : ByteArray) (ao : Option Addr) (c : Nat) (L : List Pr) (W : World) (hn : name.size ≤ maxLen) (h : PairsIn W ao c L) (hl : L.length ≤ 9223372036854775807) (_ : NoTab W) :
    Calls Tryd.prog 3 #[.string name, .slice ao L.length c] W fun e w' => e = .returned (.bool true) ∧ Kept (fun _ => False) W w' :=
  texts11_walk0 name ao c L W (by unfold maxLen at hn; omega) h.at_ h.cap hl
end Go.Proofs.YtkgjkcfjkjkflaaDoor
