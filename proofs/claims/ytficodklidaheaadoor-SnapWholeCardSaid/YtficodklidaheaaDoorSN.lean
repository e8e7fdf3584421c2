/- Bytes as texts: rows of bytes that are made, and their texts. -/
import Derived.Test.YtficodklidaheaaDoorSX
import Derived.Lib.ConvBytes
namespace Go.Proofs.YtficodklidaheaaDoor
open Go.RowKit
attribute [local go_sem ↓] Go.wp_at_zero Go.wp_at_succ

def byV (l : List Nat) : List Value := l.map fun (n : Nat) => Value.int .u8 (n : Int)
@[simp] theorem byV_length (l : List Nat) : (byV l).length = l.length := by simp [byV]
theorem byV_get {l : List Nat} {j : Nat} (h : j < l.length) : (byV l)[j]? = some (.int .u8 ((l.getD j 0 : Nat) : Int)) := by
  simp [byV, List.getD_eq_getElem?_getD, List.getElem?_eq_getElem h]
theorem byV_one (l : List Nat) : ∀ u ∈ byV l, u.oneCell' = true := by
  intro u hu
  obtain ⟨n, _, rfl⟩ := List.mem_map.1 hu
  rfl
theorem byV_append (a b : List Nat) : byV (a ++ b) = byV a ++ byV b := by simp [byV]
/-- Bytes as a text. -/
def strL (l : List Nat) : ByteArray := strOfNums (l.map fun (n : Nat) => (n : Int))
theorem strL_list (l : List Nat) : (strL l).toList = l.map UInt8.ofNat := by
  rw [ByteArray.toList_eq]
  simp [strL, strOfNums, List.map_map, Function.comp_def]
theorem bl_strL {l : List Nat} (h : ∀ x ∈ l, x < 256) : bl (strL l) = l := by
  unfold bl
  rw [strL_list, List.map_map]
  conv => rhs; rw [← List.map_id l]
  refine List.map_congr_left fun x hx => ?_
  have := h x hx
  simp; omega
theorem strL_bl (s : ByteArray) : strL (bl s) = s := bl_inj (bl_strL (fun _ hx => bl_lt hx))
theorem run_strL {P : Program} {w : World} {v : Value} {l : List Nat} (h : SlAt w v (byV l)) (src e dst : TypeId) (hs : P.underlying src = some (.slice e)) (he : P.underlying e = some (.int .u8)) (hd : P.underlying dst = some .string) :
    (convert src dst v).run P w = .ok (.string (strL l)) w := by
  rcases Nat.eq_zero_or_pos l.length with h0 | h0
  · obtain rfl : l = [] := List.eq_nil_of_length_eq_zero h0
    obtain ⟨ao, c, rfl, hn, hc⟩ := h.val
    cases ao with
    | none => exact run_convert_bytes_nil w src e hs he 0 c dst hd
    | some a =>
      rw [run_convert_bytes_string w src dst e _ _ c hs he hd]
      simp [Conv.bytesToString, loadCells, loadCellsFrom]
      rfl
  · obtain ⟨g, off, c, rfl, hc⟩ := h.addr (by rw [byV_length]; exact h0)
    rw [byV_length]
    have := run_convert_bytes_arg (P := P) w src e hs he g off l.length c (l.map fun (n : Nat) => (n : Int)) (by simp) (fun i hi => by
      rw [hc i _ (byV_get (by simpa using hi))]
      simp [List.getD_eq_getElem?_getD, List.getElem?_eq_getElem hi]) dst hd
    exact this
theorem Tryd.infoU8 : (Tryd.prog.info? 5).map (fun i => (i.zero, i.size, i.bytes)) = some (some (.int .u8 0), 1, 1) := by kernel_rfl
end Go.Proofs.YtficodklidaheaaDoor
