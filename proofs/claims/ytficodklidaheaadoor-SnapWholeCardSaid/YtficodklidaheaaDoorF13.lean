/- package limnographref04: strings of bytes; four; the document's sum. -/
import Derived.Test.YtficodklidaheaaDoorF7
import Derived.Lib.ConvBytes
namespace Go.Proofs.YtficodklidaheaaDoor
open Go.RowKit
attribute [local go_sem ↓] Go.wp_at_zero Go.wp_at_succ

def strN (l : List Nat) : ByteArray := (l.map fun (n : Nat) => (n : Int)).foldl (fun r n => r.push (UInt8.ofNat n.toNat)) ByteArray.empty
theorem strN_fold (l : List Nat) : ∀ b : ByteArray, ((l.map fun (n : Nat) => (n : Int)).foldl (fun r n => r.push (UInt8.ofNat n.toNat)) b).data.toList = b.data.toList ++ l.map UInt8.ofNat := by
  induction l with
  | nil => intro b; simp
  | cons x r ih =>
    intro b
    rw [List.map_cons, List.foldl_cons, ih]
    simp [ByteArray.push]
theorem strN_data (l : List Nat) : (strN l).data.toList = l.map UInt8.ofNat := by
  have := strN_fold l ByteArray.empty
  simpa [strN] using this
theorem byteArray_eq {a b : ByteArray} (h : a.data.toList = b.data.toList) : a = b := by
  cases a; cases b
  simp at h
  rw [h]
theorem strN_size (l : List Nat) : (strN l).size = l.length := by
  have : (strN l).size = (strN l).data.toList.length := by rw [Array.length_toList]; rfl
  rw [this, strN_data, List.length_map]
theorem strN_append (a b : List Nat) : strN (a ++ b) = strN a ++ strN b := by
  apply byteArray_eq
  simp [strN_data]
theorem conv8 {w : World} {v : Value} {l : List Nat} (h : Row8 w v l) : (convert 22 9 v).run Tryd.prog w = .ok (.string (strN l)) w := by
  have h0 := h
  obtain ⟨ao, c, rfl, _, hc⟩ := h
  rw [run_convert_bytes_string w _ _ _ _ _ _ Tryd.underlying22 Tryd.underlying5 Tryd.underlying9]
  cases ao with
  | none =>
    obtain rfl := h0.nil
    simp [Conv.bytesToString, strN]
  | some a =>
    have hl : (loadCells a l.length).run Tryd.prog w = .ok ((l.map fun (n : Nat) => (n : Int)).map (Value.int .u8)).toArray w := by
      have := run_loadCells_list (P := Tryd.prog) w a (b8 l) (fun j v hj => by
        have hjl : j < l.length := by have := (List.getElem?_eq_some_iff.1 hj).1; simpa [b8] using this
        obtain ⟨a', ha, h1⟩ := hc j hjl
        cases ha
        rw [b8_at l j hjl] at hj
        cases hj
        exact h1)
      rw [b8_len] at this
      rw [this]
      simp [b8, List.map_map, Function.comp_def]
    rw [run_bytesToString w a l.length c _ hl]
    rfl
/-- `[]byte(s)` -/
theorem strBytes_run (w : World) (l : List Nat) :
    (convert 9 22 (.string (strN l))).run Tryd.prog w = .ok (.slice (some ⟨w.heap.size, 0, none⟩) l.length (grownCap w l.length 0 5)) (Lib.bytesWorld w 5 (strN l)) := by
  have := Lib.run_convert_string_bytes (P := Tryd.prog) w 9 22 5 (strN l) Tryd.underlying9 Tryd.underlying22 Tryd.underlying5
  rw [strN_size] at this
  exact this
theorem strBytes_kept (w : World) (s : ByteArray) : Kept (fun _ => False) w (Lib.bytesWorld w 5 s) :=
  ⟨rfl, rfl, rfl, by rw [Lib.bytesWorld_size]; omega, fun j hj _ => Lib.bytesWorld_at_old w _ s j hj⟩
theorem strBytes_row (w : World) (l : List Nat) (hb : ∀ x ∈ l, x < 256) (c : Nat) : Row8 (Lib.bytesWorld w 5 (strN l)) (.slice (some ⟨w.heap.size, 0, none⟩) l.length c) l := by
  refine ⟨some ⟨w.heap.size, 0, none⟩, c, rfl, hb, fun j hj => ⟨_, rfl, ?_⟩⟩
  have e : (⟨w.heap.size, 0, none⟩ : Addr).add j = ⟨w.heap.size, j, none⟩ := by unfold Addr.add; split <;> simp_all
  rw [e, Lib.bytesWorld_cell w _ _ j (by rw [strN_size]; exact hj), strN_data]
  have h1 := getD_lt hb hj
  simp only [List.getD_eq_getElem?_getD, List.getElem?_map, List.getElem?_eq_getElem hj, Option.map_some, Option.getD_some] at h1 ⊢
  have : (UInt8.ofNat l[j]).toNat = l[j] := by simp; omega
  rw [this]

set_option maxHeartbeats 1000000 in
theorem refFour_any (n : Nat) (hn : n < 4294967296) (w : World) :
    Calls Tryd.prog 89 #[.int .i64 n] w fun e w' => e = .returned (.string (strN (fourL n))) ∧ Kept (fun _ => False) w w' := by
  have e1 : IntKind.u8.wrap ((n : Int) % 256) = ((n % 256 : Nat) : Int) := by rw [IntKind.wrap_u8]; omega
  have e2 : IntKind.u8.wrap ((n : Int) / 256 % 256) = ((n / 256 % 256 : Nat) : Int) := by rw [IntKind.wrap_u8]; omega
  have e3 : IntKind.u8.wrap ((n : Int) / 65536 % 256) = ((n / 65536 % 256 : Nat) : Int) := by rw [IntKind.wrap_u8]; omega
  have e4 : IntKind.u8.wrap ((n : Int) / 16777216) = ((n / 16777216 % 256 : Nat) : Int) := by rw [IntKind.wrap_u8]; omega
  have h0 : (0 : Int) ≤ (n : Int) := by omega
  have QC := conv8 (row8_new w w.heap.size 4 (fourL n) 5 (0, 0) rfl (fourL_lt n))
  have QC2 : (convert 22 9 (.slice (some ⟨w.heap.size, 0, none⟩) 4 4)).run Tryd.prog (w.alloc (.cells #[.int .u8 ((n % 256 : Nat) : Int), .int .u8 ((n / 256 % 256 : Nat) : Int), .int .u8 ((n / 65536 % 256 : Nat) : Int), .int .u8 ((n / 16777216 % 256 : Nat) : Int)] 5)) = .ok (.string (strN (fourL n))) (w.alloc (.cells #[.int .u8 ((n % 256 : Nat) : Int), .int .u8 ((n / 256 % 256 : Nat) : Int), .int .u8 ((n / 65536 % 256 : Nat) : Int), .int .u8 ((n / 16777216 % 256 : Nat) : Int)] 5)) := QC
  obtain ⟨a1, h1⟩ : ∃ a, a = n % 256 := ⟨_, rfl⟩
  obtain ⟨a2, h2⟩ : ∃ a, a = n / 256 % 256 := ⟨_, rfl⟩
  obtain ⟨a3, h3⟩ : ∃ a, a = n / 65536 % 256 := ⟨_, rfl⟩
  obtain ⟨a4, h4⟩ : ∃ a, a = n / 16777216 % 256 := ⟨_, rfl⟩
  rw [← h1] at e1 QC2
  rw [← h2] at e2 QC2
  rw [← h3] at e3 QC2
  rw [← h4] at e4 QC2
  clear QC h1 h2 h3 h4
  go_enter Tryd.func89, Tryd.ntmps89
  go_wp2
  go_ret
  exact ⟨rfl, (Kept.refl _ _).alloc _⟩
end Go.Proofs.YtficodklidaheaaDoor
