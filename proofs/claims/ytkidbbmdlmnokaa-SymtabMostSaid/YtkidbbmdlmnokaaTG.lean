/- Layer 34, plainly: texts of which Build makes a table rise, and are short. -/
import Derived.Test.YtkidbbmdlmnokaaTF
namespace Go.Proofs.Ytkidbbmdlmnokaa
open Go.RowKit
theorem bld_ok : ∀ (L : List ByteArray) (i : Nat) (a : ByteArray), (bldL i a L).1 = 0 → (∀ s ∈ L, s.size ≤ 400) ∧ (0 < i → ∀ s ∈ L, Op.bytesLess a.toList s.toList = true) ∧ L.Pairwise (fun x y => Op.bytesLess x.toList y.toList = true)
  | [], _, _, _ => ⟨by simp, by simp, List.Pairwise.nil⟩
  | s :: t, i, a, h => by
    unfold bldL at h
    split at h
    · simp at h
    · rename_i h1
      split at h
      · simp at h
      · rename_i h2
        split at h
        · rename_i h3; exact absurd h h3
        · rename_i h3
          have h3 := Classical.not_not.1 h3
          obtain ⟨g1, g2, g3⟩ := bld_ok t (i + 1) s h3
          have g2 := g2 (by omega)
          refine ⟨?_, ?_, List.pairwise_cons.2 ⟨g2, g3⟩⟩
          · intro u hu
            rcases List.mem_cons.1 hu with rfl | hu
            · omega
            · exact g1 u hu
          · intro hi
            have hs : Op.bytesLess a.toList s.toList = true := by
              have : ¬ leS s a = true := fun e => h2 ⟨hi, e⟩
              unfold leS at this
              rw [bytesLess_total] at this
              simpa using this
            intro u hu
            rcases List.mem_cons.1 hu with rfl | hu
            · exact hs
            · exact bytesLess_trans _ _ _ hs (g2 u hu)
theorem build_ok {L : List ByteArray} (h : (buildS L).1 = 0) : L.length ≤ 4096 ∧ (∀ s ∈ L, s.size ≤ 400) ∧ Asc L := by
  unfold buildS at h
  split at h
  · simp at h
  · rename_i h1
    unfold preB at h
    split at h
    · rename_i h2; exact absurd h h2
    · rename_i h2
      obtain ⟨g1, _, g3⟩ := bld_ok L 0 ByteArray.empty (Classical.not_not.1 h2)
      exact ⟨by omega, g1, fun i j hi hj hij => (List.pairwise_iff_getElem.1 g3) i j hi hj hij⟩
end Go.Proofs.Ytkidbbmdlmnokaa
