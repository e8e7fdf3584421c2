/- Bytes as texts: strings of numbers, conversions. -/
import Derived.Test.YtdgpeganmgcjiaaY3
import Derived.Test.YtdgpeganmgcjiaaR2
import Derived.Lib.ConvBytes
namespace Go.Proofs.Ytdgpeganmgcjiaa
open Go.RowKit
attribute [local go_sem ↓] Go.wp_at_zero Go.wp_at_succ

/-- Bytes as a text. -/
def strN (l : List Nat) : ByteArray := strOfNums (l.map fun (n : Nat) => (n : Int))
theorem strN_data (l : List Nat) : (strN l).data.toList = l.map UInt8.ofNat := by
  simp [strN, strOfNums, List.map_map, Function.comp_def]
theorem byteArray_eq {a b : ByteArray} (h : a.data.toList = b.data.toList) : a = b := by
  cases a; cases b
  simp at h
  rw [h]
theorem strN_nil : strN [] = ByteArray.empty := rfl
theorem strN_size (l : List Nat) : (strN l).size = l.length := by
  have : (strN l).size = (strN l).data.toList.length := by rw [Array.length_toList]; rfl
  rw [this, strN_data, List.length_map]
theorem strN_append (a b : List Nat) : strN (a ++ b) = strN a ++ strN b := by
  apply byteArray_eq
  simp [strN_data]
theorem strN_inj {a b : List Nat} (ha : ∀ x ∈ a, x < 256) (hb : ∀ x ∈ b, x < 256) (h : strN a = strN b) : a = b := by
  have h1 : a.map UInt8.ofNat = b.map UInt8.ofNat := by rw [← strN_data, ← strN_data, h]
  have key : ∀ l : List Nat, (∀ x ∈ l, x < 256) → (l.map UInt8.ofNat).map UInt8.toNat = l := by
    intro l hl
    rw [List.map_map]
    conv => rhs; rw [← List.map_id l]
    refine List.map_congr_left fun x hx => ?_
    have := hl x hx
    simp; omega
  rw [← key a ha, ← key b hb, h1]
theorem run_strN {P : Program} {w : World} {v : Value} {l : List Nat} (h : SlAt w v (bys l)) (src e dst : TypeId) (hs : P.underlying src = some (.slice e)) (he : P.underlying e = some (.int .u8)) (hd : P.underlying dst = some .string) :
    (convert src dst v).run P w = .ok (.string (strN l)) w := by
  rcases Nat.eq_zero_or_pos l.length with h0 | h0
  · obtain rfl : l = [] := List.eq_nil_of_length_eq_zero h0
    obtain ⟨ao, c, rfl, hn, hc⟩ := h.val
    cases ao with
    | none => exact run_convert_bytes_nil w src e hs he 0 c dst hd
    | some a =>
      rw [run_convert_bytes_string w src dst e _ _ c hs he hd]
      simp [Conv.bytesToString, loadCells, loadCellsFrom]
      rfl
  · obtain ⟨g, off, c, rfl, hc⟩ := h.addr (by rw [bys_length]; exact h0)
    rw [bys_length]
    have := run_convert_bytes_arg (P := P) w src e hs he g off l.length c (l.map fun (n : Nat) => (n : Int)) (by simp) (fun i hi => by
      rw [hc i _ (bys_get (by simpa using hi))]
      simp [List.getD_eq_getElem?_getD, List.getElem?_eq_getElem hi]) dst hd
    exact this
theorem By.conv {w : World} {ao : Option Addr} {c : Nat} {l : List Nat} (h : By w ao c l) : (convert 25 9 (.slice ao l.length c)).run Try.prog w = .ok (.string (strN l)) w :=
  run_strN h.at_ _ _ _ Try.underlying25 Try.underlying5 Try.underlying9
theorem mine_conv {W w : World} {v : Value} {l : List Nat} (h : Mine W w 5 v (bys l)) : (convert 25 9 v).run Try.prog w = .ok (.string (strN l)) w :=
  run_strN h.at_ _ _ _ Try.underlying25 Try.underlying5 Try.underlying9
/-- `[]byte(s)` -/
theorem strBytes_run (w : World) (l : List Nat) :
    (convert 9 25 (.string (strN l))).run Try.prog w = .ok (.slice (some ⟨w.heap.size, 0, none⟩) l.length (grownCap w l.length 0 5)) (Lib.bytesWorld w 5 (strN l)) := by
  have := Lib.run_convert_string_bytes (P := Try.prog) w 9 25 5 (strN l) Try.underlying9 Try.underlying25 Try.underlying5
  rw [strN_size] at this
  exact this
theorem strBytes_kept (w : World) (s : ByteArray) : Kept (fun _ => False) w (Lib.bytesWorld w 5 s) :=
  ⟨rfl, rfl, rfl, by rw [Lib.bytesWorld_size]; omega, fun j hj _ => Lib.bytesWorld_at_old w _ s j hj⟩
theorem strBytes_at (w : World) (l : List Nat) (hb : ∀ x ∈ l, x < 256) (c : Nat) : SlAt (Lib.bytesWorld w 5 (strN l)) (.slice (some ⟨w.heap.size, 0, none⟩) l.length c) (bys l) := by
  refine ⟨some ⟨w.heap.size, 0, none⟩, c, by rw [bys_length], fun e => (by cases e), ?_⟩
  intro a ha j u hu
  cases ha
  have hj : j < l.length := by have := (List.getElem?_eq_some_iff.1 hu).1; rwa [bys_length] at this
  rw [bys_get hj] at hu
  injection hu with hu
  subst hu
  have e : (⟨w.heap.size, 0, none⟩ : Addr).add j = ⟨w.heap.size, j, none⟩ := by unfold Addr.add; split <;> simp_all
  rw [e, Lib.bytesWorld_cell w _ _ j (by rw [strN_size]; exact hj), strN_data]
  have h1 := hb l[j] (List.getElem_mem hj)
  simp only [List.getD_eq_getElem?_getD, List.getElem?_map, List.getElem?_eq_getElem hj, Option.map_some, Option.getD_some]
  have : (UInt8.ofNat l[j]).toNat = l[j] := by simp; omega
  rw [this]
/-- Two texts, one behind the other. -/
theorem strN_add {P : Program} (w : World) (a b : List Nat) (h : a.length + b.length ≤ 1000000000000) : (Op.stringOp .add (strN a) (strN b)).run P w = .ok (.string (strN (a ++ b))) w := by
  rw [run_string_add_sum w _ _ (by rw [strN_size, strN_size]; omega), ← strN_append]
end Go.Proofs.Ytdgpeganmgcjiaa
