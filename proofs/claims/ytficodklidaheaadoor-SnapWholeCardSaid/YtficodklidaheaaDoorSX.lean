/- Texts, byte by byte. -/
import Derived.Test.YtficodklidaheaaDoorProg
import Derived.Test.YtficodklidaheaaDoorG1
namespace Go.Proofs.YtficodklidaheaaDoor
open Go.RowKit
attribute [local go_sem ↓] Go.wp_at_zero Go.wp_at_succ

/-- A text's i-th byte. -/
def chr (s : ByteArray) (i : Nat) : Nat := (s.toList.getD i 0).toNat
theorem toList_size (s : ByteArray) : s.toList.length = s.size := by rw [ByteArray.toList_eq]; exact Array.length_toList
theorem chr_lt (s : ByteArray) (i : Nat) : chr s i < 256 := (s.toList.getD i 0).toNat_lt
theorem run_chr {P : Program} {t : TypeId} (h : P.underlying t = some .string) (s : ByteArray) (i : Nat) (hi : i < s.size) (w : World) : (Instr.index t (.string s) (.int .i64 (i : Int))).run P w = .ok (.int .u8 (chr s i : Int)) w := by
  have hl : s.toList.length = s.size := toList_size s
  rw [run_index_string w t s .i64 i h, dif_pos ⟨by omega, by omega⟩]
  have e : chr s i = (s[((i : Nat) : Int).toNat]'(by omega)).toNat := by
    unfold chr
    rw [List.getD_eq_getElem?_getD, List.getElem?_eq_getElem (by omega)]
    have h2 : s.toList = s.data.toList := ByteArray.toList_eq s
    simp only [h2, Option.getD_some, Array.getElem_toList]
    rfl
  rw [e]
theorem eqT {a b : Nat} (h : a = b) : ((a : Int) == (b : Int)) = true := by simp [h]
theorem toList_extractX (s : ByteArray) (i j : Nat) : (s.extract i j).toList = (s.toList.take j).drop i := by
  rw [ByteArray.toList_eq, ByteArray.toList_eq, ByteArray.data_extract, Array.toList_extract]
  simp [List.drop_take]
/-- A text's bytes as numbers. -/
def bl (s : ByteArray) : List Nat := s.toList.map UInt8.toNat
theorem bl_length (s : ByteArray) : (bl s).length = s.size := by unfold bl; rw [List.length_map, toList_size]
theorem bl_get {s : ByteArray} {i : Nat} (h : i < s.size) : (bl s)[i]? = some (chr s i) := by
  have h2 : i < s.toList.length := by rw [toList_size]; exact h
  unfold bl chr
  rw [List.getElem?_map, List.getElem?_eq_getElem h2, List.getD_eq_getElem?_getD, List.getElem?_eq_getElem h2]; rfl
theorem bl_getD (s : ByteArray) (i : Nat) : (bl s).getD i 0 = chr s i := by
  unfold bl chr
  rw [List.getD_eq_getElem?_getD, List.getElem?_map, List.getD_eq_getElem?_getD]
  cases s.toList[i]? <;> rfl
theorem bl_lt {s : ByteArray} {x : Nat} (h : x ∈ bl s) : x < 256 := by
  unfold bl at h
  obtain ⟨b, _, rfl⟩ := List.mem_map.1 h
  exact b.toNat_lt
theorem bl_extract (s : ByteArray) (i j : Nat) : bl (s.extract i j) = ((bl s).take j).drop i := by
  unfold bl; rw [toList_extractX, List.map_drop, List.map_take]
theorem bl_from (s : ByteArray) (i : Nat) : bl (s.extract i s.size) = (bl s).drop i := by
  rw [bl_extract, List.take_of_length_le (by rw [bl_length]; exact Nat.le_refl _)]
theorem bl_append (a b : ByteArray) : bl (a ++ b) = bl a ++ bl b := by
  unfold bl
  rw [← List.map_append]
  congr 1
  simp [ByteArray.toList_eq]
theorem bl_inj {a b : ByteArray} (h : bl a = bl b) : a = b := by
  unfold bl at h
  have h2 : a.toList = b.toList := (List.map_inj_right (fun x y e => UInt8.toNat_inj.1 e)).1 h
  rw [ByteArray.toList_eq, ByteArray.toList_eq] at h2
  cases a; cases b
  simp at h2
  cases h2
  rfl
theorem drop_cons {l : List Nat} {i : Nat} (h : i < l.length) : l.drop i = l.getD i 0 :: l.drop (i + 1) := by
  rw [List.drop_eq_getElem_cons h, List.getD_eq_getElem?_getD, List.getElem?_eq_getElem h]; rfl
theorem size_from (s : ByteArray) (i : Nat) : (s.extract i s.size).size = s.size - i := by simp [ByteArray.size_extract]
theorem size_cut (s : ByteArray) (i j : Nat) (h : j ≤ s.size) : (s.extract i j).size = j - i := by simp [ByteArray.size_extract]; omega
end Go.Proofs.YtficodklidaheaaDoor
