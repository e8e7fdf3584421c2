/- Bytes that are made of numbers, and their texts; what answers bytes or an error. -/
import Derived.Test.YtkidbbmdlmnokaaQ8
import Derived.Test.YtkidbbmdlmnokaaSN
import Derived.Test.YtkidbbmdlmnokaaP9
namespace Go.Proofs.Ytkidbbmdlmnokaa
open Go.RowKit
attribute [local go_sem ↓] Go.wp_at_zero Go.wp_at_succ

/-- What is answered: bytes in new memory, an error. -/
def BuildTo (w : World) (r : Int × List Int) (e : Ending) (w' : World) : Prop := ∃ v, e = .returned (.tuple #[v, .int .i64 r.1]) ∧ w'.ownsRow w.heap.size 5 1 v r.2.length (u8s r.2) ∧ Kept (fun _ => False) w w'
theorem strB_strOf {l : List Int} (h : ∀ x ∈ l, 0 ≤ x ∧ x < 256) : strB (strOfNums l) = l := by
  unfold strB strOfNums
  simp only [List.map_map, Function.comp_def]
  conv => rhs; rw [← List.map_id l]
  refine List.map_congr_left fun x hx => ?_
  have := h x hx
  simp
  omega
theorem strOf_size (l : List Int) : (strOfNums l).size = l.length := by
  unfold strOfNums ByteArray.size
  simp
theorem run_strI {P : Program} {w : World} {v : Value} {l : List Int} (h : SlAt w v (u8s l)) (src e dst : TypeId) (hs : P.underlying src = some (.slice e)) (he : P.underlying e = some (.int .u8)) (hd : P.underlying dst = some .string) :
    (convert src dst v).run P w = .ok (.string (strOfNums l)) w := by
  rcases Nat.eq_zero_or_pos l.length with h0 | h0
  · obtain rfl : l = [] := List.eq_nil_of_length_eq_zero h0
    obtain ⟨ao, c, rfl, hn, hc⟩ := h.val
    cases ao with
    | none => exact run_convert_bytes_nil w src e hs he 0 c dst hd
    | some a =>
      rw [run_convert_bytes_string w src dst e _ _ c hs he hd]
      simp [Conv.bytesToString, loadCells, loadCellsFrom]
      rfl
  · obtain ⟨g, off, c, rfl, hc⟩ := h.addr (by simpa using h0)
    have hl : (u8s l).length = l.length := by simp
    rw [hl]
    have := run_convert_bytes_arg (P := P) w src e hs he g off l.length c l rfl (fun i hi => by
      rw [hc i _ (by unfold u8s; rw [List.getElem?_map, List.getElem?_eq_getElem hi]; rfl)]
      simp [List.getD_eq_getElem?_getD, List.getElem?_eq_getElem hi]) dst hd
    exact this
theorem SliceAt.slAt {w : World} {ao : Option Addr} {c : Nat} {l : List Int} (h : SliceAt w (.slice ao l.length c) ao l.length c (u8s l)) : SlAt w (.slice ao l.length c) (u8s l) := by
  have hl : (u8s l).length = l.length := by simp
  refine ⟨ao, c, by rw [hl], fun h0 => List.eq_nil_of_length_eq_zero (by rw [hl]; exact h.none h0), fun a ha j u hu => h.cells a ha j u hu⟩
end Go.Proofs.Ytkidbbmdlmnokaa
