/- A slice of rows of bytes that came in; the walk of 'FrameBack'. -/
import Derived.Test.YtmmaickpkpkajaaDoorF18
import Derived.Deep.Slices
namespace Go.Proofs.YtmmaickpkpkajaaDoor
open Go.ChangeShapes Go.WideShapes Go.Deep Go.RowKit

theorem build_list {P : Nat → List Nat → Prop} : ∀ k, (∀ i, i < k → ∃ l, P i l) → ∃ Ls : List (List Nat), Ls.length = k ∧ ∀ i, i < k → P i (Ls.getD i []) := by
  intro k
  induction k with
  | zero => intro _; exact ⟨[], rfl, fun i h => absurd h (by omega)⟩
  | succ k ih =>
    intro h
    obtain ⟨Ls, hl, hp⟩ := ih (fun i hi => h i (by omega))
    obtain ⟨l, hq⟩ := h k (by omega)
    refine ⟨Ls ++ [l], by simp [hl], fun i hi => ?_⟩
    rcases Nat.lt_or_eq_of_le (Nat.le_of_lt_succ hi) with h1 | rfl
    · have e : (Ls ++ [l]).getD i [] = Ls.getD i [] := by simp only [List.getD_eq_getElem?_getD]; rw [List.getElem?_append_left (by omega)]
      rw [e]; exact hp i h1
    · have e : (Ls ++ [l]).getD i [] = l := by simp only [List.getD_eq_getElem?_getD]; rw [List.getElem?_append_right (by omega), hl]; simp
      rw [e]; exact hq
theorem rows_of {H : Type} {enc : TypeId × Value → H} {P : Program} {W : World} {sp : Nat} {T E I : TypeId} {a : Option Addr} {len cap : Nat} {d : DataW H} {p : List MemPlace}
    (hT : P.underlying T = some (.slice E)) (hE : P.underlying E = some (.slice I)) (hI : P.underlying I = some (.int .u8)) (hC : P.cellsOf E = 1) (hC2 : P.cellsOf I = 1) (h : DataW.Trod enc P W sp (fun _ => true) true T (.slice a len cap) d p) :
    ∃ Ls : List (List Nat), Ls.length = len ∧ RowsAt W (.slice a Ls.length cap) Ls ∧ Ls.length ≤ cap ∧ Ls.length ≤ maxLen ∧ (∀ l ∈ Ls, l.length ≤ maxLen) ∧ ∀ l ∈ Ls, ∀ x ∈ l, x < 256 := by
  obtain ⟨fuel, hf⟩ := h
  rcases open_slice1 hT hC hf with ⟨hcs, _⟩ | ⟨x, l, c, m, n, V, D, Pl, hcs, _, hl, hm, hmm, _, hi⟩
  · simp [Value.cells] at hcs
    obtain ⟨rfl, rfl, rfl⟩ := hcs
    exact ⟨[], rfl, ⟨none, 0, rfl, fun i h => absurd h (by simp)⟩, by simp, by simp [maxLen], by simp, by simp⟩
  · simp [Value.cells] at hcs
    obtain ⟨rfl, rfl, rfl⟩ := hcs
    have key : ∀ i, i < len → ∃ r : List Nat, r.length ≤ maxLen ∧ (∀ y ∈ r, y < 256) ∧ ∃ ai ci, W.cell? (x.add i) = some (.slice ai r.length ci) ∧ Row8 W (.slice ai r.length ci) r := by
      intro i hil
      obtain ⟨h1, h2⟩ := hi i (by simp at hmm; omega)
      have hv : ∃ ai li ci, V i = .slice ai li ci := by
        rcases open_slice hE h2 with ⟨h3, _⟩ | ⟨a3, l3, c3, _, _, _, _, h3, _⟩
        · exact ⟨_, _, _, List.singleton_inj.1 h3⟩
        · exact ⟨_, _, _, List.singleton_inj.1 h3⟩
      obtain ⟨ai, li, ci, hv⟩ := hv
      rw [hv] at h1 h2
      obtain ⟨zs, hz⟩ := isRow_of (k := .u8) (d := D i) (p := Pl i) (a := ai) (len := li) (cap := ci) hE hI hC2 ⟨n, by simpa [Value.cells] using h2⟩
      obtain ⟨r, hr, h8, hmx⟩ := hz.row8
      subst hr
      exact ⟨r, hmx, h8.lt, ai, ci, h1, h8⟩
    obtain ⟨Ls, hLs, hP⟩ := build_list len key
    refine ⟨Ls, hLs, ⟨some x, cap, rfl, fun i hil => ?_⟩, by omega, by omega, fun r hr => ?_, fun r hr => ?_⟩
    · obtain ⟨_, _, ai, ci, h1, h2⟩ := hP i (by omega)
      exact ⟨x, ai, ci, rfl, h1, h2⟩
    · obtain ⟨i, hi2, rfl⟩ := List.getElem_of_mem hr
      have := (hP i (by omega)).1
      rwa [List.getD_eq_getElem?_getD, List.getElem?_eq_getElem hi2] at this
    · obtain ⟨i, hi2, rfl⟩ := List.getElem_of_mem hr
      have := (hP i (by omega)).2.1
      rwa [List.getD_eq_getElem?_getD, List.getElem?_eq_getElem hi2] at this

theorem frameBack_walk (ao : Option Addr) (c : Nat) (Ls : List (List Nat)) (k : Int) (W : World) (HR : RowsAt W (.slice ao Ls.length c) Ls) (hcap : Ls.length ≤ c) (hL : Ls.length ≤ maxLen) (hb : ∀ l ∈ Ls, l.length ≤ maxLen) (hb8 : ∀ l ∈ Ls, ∀ x ∈ l, x < 256) (_hk : -9223372036854775808 ≤ k ∧ k ≤ 9223372036854775807) (HN : Nibs W) :
    Calls Tryd.prog 6 #[.slice ao Ls.length c, .int .i64 k] W fun e w' => e = .returned (.bool true) ∧ Kept (fun _ => False) W w' := by
  have hL' : Ls.length ≤ 9223372036854775807 := by unfold maxLen at hL; omega
  have hb' : ∀ l ∈ Ls, l.length ≤ 9223372036854775807 := fun l hl => by have := hb l hl; unfold maxLen at this; omega
  by_cases h1 : (60 : Int) < (Ls.length : Int)
  · exact back_over ao c Ls k W HR HN hL' hb' (decide_eq_true h1)
  by_cases h2 : k < 0
  · exact back_neg ao c Ls k W HR HN hL' hb' (decide_eq_false h1) hcap hb8 (decide_eq_true h2)
  by_cases h3 : ((EN Ls Ls.length : Nat) : Int) < k
  · exact back_far ao c Ls k W HR HN hL' hb' (decide_eq_false h1) hcap hb8 (decide_eq_false h2) (decide_eq_true h3)
  obtain ⟨n, rfl⟩ : ∃ n : Nat, k = n := ⟨k.toNat, by omega⟩
  exact back_in ao c Ls n W HR HN hL' hb' (decide_eq_false h1) hcap hb8 (by omega)
end Go.Proofs.YtmmaickpkpkajaaDoor
