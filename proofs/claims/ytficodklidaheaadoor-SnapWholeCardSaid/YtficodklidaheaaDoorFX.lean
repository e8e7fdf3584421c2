/- Rows of bytes: one that came in; the document's frame as a text. -/
import Derived.Test.YtficodklidaheaaDoorF13
namespace Go.Proofs.YtficodklidaheaaDoor
open Go.ChangeShapes Go.WideShapes Go.RowKit

theorem IsRow.row8 {w : World} {a : Option Addr} {len cap : Nat} {zs : List Int} (h : IsRow .u8 w a len cap zs) : ∃ l : List Nat, l.length = len ∧ Row8 w (.slice a l.length cap) l ∧ len ≤ maxLen := by
  rcases h with ⟨rfl, rfl, rfl, rfl⟩ | ⟨x, rfl, hl, hm, hz, hc, hw⟩
  · exact ⟨[], rfl, ⟨none, 0, rfl, by simp, fun j hj => absurd hj (by simp)⟩, by simp [maxLen]⟩
  · have hlen : ((zs.take len).map Int.toNat).length = len := by rw [List.length_map, List.length_take]; omega
    refine ⟨(zs.take len).map Int.toNat, hlen, ⟨some x, cap, rfl, ?_, ?_⟩, by omega⟩
    · intro y hy
      obtain ⟨z, hz2, rfl⟩ := List.mem_map.1 hy
      have := bd_u8 (hw z (List.mem_of_mem_take hz2))
      omega
    · intro j hj
      rw [hlen] at hj
      refine ⟨x, rfl, ?_⟩
      rw [hc j (by omega)]
      have hjz : j < zs.length := by omega
      have hb := bd_u8 (hw zs[j] (List.getElem_mem hjz))
      have e : ((((zs.take len).map Int.toNat).getD j 0 : Nat) : Int) = zs.getD j 0 := by
        simp only [List.getD_eq_getElem?_getD, List.getElem?_map, List.getElem?_take, hj, if_true, List.getElem?_eq_getElem hjz, Option.map_some, Option.getD_some]
        omega
      rw [e]
theorem ref_conv {w : World} {l : List Nat} {v : Value} (h : Row8 w v (frameL l)) : (convert 22 9 v).run Tryd.prog w = .ok (.string (strN (frameL l))) w := conv8 h
end Go.Proofs.YtficodklidaheaaDoor
