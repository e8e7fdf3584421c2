/- Rows of bytes that are owned, as rows. -/
import Derived.Test.YtficodklidaheaaDoorF17
namespace Go.Proofs.YtficodklidaheaaDoor
open Go.RowKit

theorem own_RowsAt {w : World} {B C : Nat} {v : Value} {vs : List Value} {Ls : List (List Nat)} (hb : ∀ l ∈ Ls, ∀ x ∈ l, x < 256) (ho : w.ownsRow B 22 1 v vs.length vs) (hr : Rows8 w C vs Ls) : RowsAt w v Ls := by
  have hl := hr.length
  obtain ⟨ao, c, rfl⟩ := ownsRow_slice ho
  rw [hl]
  refine ⟨ao, c, rfl, fun i hi => ?_⟩
  obtain ⟨u, hu, h8⟩ := hr.at_ i hi
  obtain ⟨g, cap, hv, _, _⟩ := own_at ho (by omega)
  injection hv with h1 h2 h3
  subst h1
  have hc := ho.cells (g := g) rfl i u hu
  obtain ⟨ai, ci, rfl⟩ := ownsRow_slice h8
  exact ⟨_, ai, ci, rfl, hc, row8_own (hb _ (by rw [List.getD_eq_getElem?_getD, List.getElem?_eq_getElem hi]; simp)) h8⟩
end Go.Proofs.YtficodklidaheaaDoor
