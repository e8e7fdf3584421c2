/- Texts put together: F13, FX, F16, F17, WA, F18r. -/
import Derived.Test.YtficodklidaheaaDoorZz8
import Derived.Lib.ConvBytes
import Derived.Test.YtficodklidaheaaDoorZz4
/- package limnographref04: strings of bytes; four; the document's sum. -/
namespace Go.Proofs.YtficodklidaheaaDoor
open Go.RowKit
attribute [local go_sem ↓] Go.wp_at_zero Go.wp_at_succ

def strN (l : List Nat) : ByteArray := (l.map fun (n : Nat) => (n : Int)).foldl (fun r n => r.push (UInt8.ofNat n.toNat)) ByteArray.empty
theorem strN_fold (l : List Nat) : ∀ b : ByteArray, ((l.map fun (n : Nat) => (n : Int)).foldl (fun r n => r.push (UInt8.ofNat n.toNat)) b).data.toList = b.data.toList ++ l.map UInt8.ofNat := by
  induction l with
  | nil => intro b; simp
  | cons x r ih =>
    intro b
    rw [List.map_cons, List.foldl_cons, ih]
    simp [ByteArray.push]
theorem strN_data (l : List Nat) : (strN l).data.toList = l.map UInt8.ofNat := by
  have := strN_fold l ByteArray.empty
  simpa [strN] using this
theorem byteArray_eq {a b : ByteArray} (h : a.data.toList = b.data.toList) : a = b := by
  cases a; cases b
  simp at h
  rw [h]
theorem strN_size (l : List Nat) : (strN l).size = l.length := by
  have : (strN l).size = (strN l).data.toList.length := by rw [Array.length_toList]; rfl
  rw [this, strN_data, List.length_map]
theorem strN_append (a b : List Nat) : strN (a ++ b) = strN a ++ strN b := by
  apply byteArray_eq
  simp [strN_data]
theorem conv8 {w : World} {v : Value} {l : List Nat} (h : Row8 w v l) : (convert 22 9 v).run Tryd.prog w = .ok (.string (strN l)) w := by
  have h0 := h
  obtain ⟨ao, c, rfl, _, hc⟩ := h
  rw [run_convert_bytes_string w _ _ _ _ _ _ Tryd.underlying22 Tryd.underlying5 Tryd.underlying9]
  cases ao with
  | none =>
    obtain rfl := h0.nil
    simp [Conv.bytesToString, strN]
  | some a =>
    have hl : (loadCells a l.length).run Tryd.prog w = .ok ((l.map fun (n : Nat) => (n : Int)).map (Value.int .u8)).toArray w := by
      have := run_loadCells_list (P := Tryd.prog) w a (b8 l) (fun j v hj => by
        have hjl : j < l.length := by have := (List.getElem?_eq_some_iff.1 hj).1; simpa [b8] using this
        obtain ⟨a', ha, h1⟩ := hc j hjl
        cases ha
        rw [b8_at l j hjl] at hj
        cases hj
        exact h1)
      rw [b8_len] at this
      rw [this]
      simp [b8, List.map_map, Function.comp_def]
    rw [run_bytesToString w a l.length c _ hl]
    rfl
/-- `[]byte(s)` -/
theorem strBytes_run (w : World) (l : List Nat) :
    (convert 9 22 (.string (strN l))).run Tryd.prog w = .ok (.slice (some ⟨w.heap.size, 0, none⟩) l.length (grownCap w l.length 0 5)) (Lib.bytesWorld w 5 (strN l)) := by
  have := Lib.run_convert_string_bytes (P := Tryd.prog) w 9 22 5 (strN l) Tryd.underlying9 Tryd.underlying22 Tryd.underlying5
  rw [strN_size] at this
  exact this
theorem strBytes_kept (w : World) (s : ByteArray) : Kept (fun _ => False) w (Lib.bytesWorld w 5 s) :=
  ⟨rfl, rfl, rfl, by rw [Lib.bytesWorld_size]; omega, fun j hj _ => Lib.bytesWorld_at_old w _ s j hj⟩
theorem strBytes_row (w : World) (l : List Nat) (hb : ∀ x ∈ l, x < 256) (c : Nat) : Row8 (Lib.bytesWorld w 5 (strN l)) (.slice (some ⟨w.heap.size, 0, none⟩) l.length c) l := by
  refine ⟨some ⟨w.heap.size, 0, none⟩, c, rfl, hb, fun j hj => ⟨_, rfl, ?_⟩⟩
  have e : (⟨w.heap.size, 0, none⟩ : Addr).add j = ⟨w.heap.size, j, none⟩ := by unfold Addr.add; split <;> simp_all
  rw [e, Lib.bytesWorld_cell w _ _ j (by rw [strN_size]; exact hj), strN_data]
  have h1 := getD_lt hb hj
  simp only [List.getD_eq_getElem?_getD, List.getElem?_map, List.getElem?_eq_getElem hj, Option.map_some, Option.getD_some] at h1 ⊢
  have : (UInt8.ofNat l[j]).toNat = l[j] := by simp; omega
  rw [this]

set_option maxHeartbeats 1000000 in
theorem refFour_any (n : Nat) (hn : n < 4294967296) (w : World) :
    Calls Tryd.prog 89 #[.int .i64 n] w fun e w' => e = .returned (.string (strN (fourL n))) ∧ Kept (fun _ => False) w w' := by
  have e1 : IntKind.u8.wrap ((n : Int) % 256) = ((n % 256 : Nat) : Int) := by rw [IntKind.wrap_u8]; omega
  have e2 : IntKind.u8.wrap ((n : Int) / 256 % 256) = ((n / 256 % 256 : Nat) : Int) := by rw [IntKind.wrap_u8]; omega
  have e3 : IntKind.u8.wrap ((n : Int) / 65536 % 256) = ((n / 65536 % 256 : Nat) : Int) := by rw [IntKind.wrap_u8]; omega
  have e4 : IntKind.u8.wrap ((n : Int) / 16777216) = ((n / 16777216 % 256 : Nat) : Int) := by rw [IntKind.wrap_u8]; omega
  have h0 : (0 : Int) ≤ (n : Int) := by omega
  have QC := conv8 (row8_new w w.heap.size 4 (fourL n) 5 (0, 0) rfl (fourL_lt n))
  have QC2 : (convert 22 9 (.slice (some ⟨w.heap.size, 0, none⟩) 4 4)).run Tryd.prog (w.alloc (.cells #[.int .u8 ((n % 256 : Nat) : Int), .int .u8 ((n / 256 % 256 : Nat) : Int), .int .u8 ((n / 65536 % 256 : Nat) : Int), .int .u8 ((n / 16777216 % 256 : Nat) : Int)] 5)) = .ok (.string (strN (fourL n))) (w.alloc (.cells #[.int .u8 ((n % 256 : Nat) : Int), .int .u8 ((n / 256 % 256 : Nat) : Int), .int .u8 ((n / 65536 % 256 : Nat) : Int), .int .u8 ((n / 16777216 % 256 : Nat) : Int)] 5)) := QC
  obtain ⟨a1, h1⟩ : ∃ a, a = n % 256 := ⟨_, rfl⟩
  obtain ⟨a2, h2⟩ : ∃ a, a = n / 256 % 256 := ⟨_, rfl⟩
  obtain ⟨a3, h3⟩ : ∃ a, a = n / 65536 % 256 := ⟨_, rfl⟩
  obtain ⟨a4, h4⟩ : ∃ a, a = n / 16777216 % 256 := ⟨_, rfl⟩
  rw [← h1] at e1 QC2
  rw [← h2] at e2 QC2
  rw [← h3] at e3 QC2
  rw [← h4] at e4 QC2
  clear QC h1 h2 h3 h4
  go_enter Tryd.func89, Tryd.ntmps89
  go_wp2
  go_ret
  exact ⟨rfl, (Kept.refl _ _).alloc _⟩
end Go.Proofs.YtficodklidaheaaDoor
/- Rows of bytes: one that came in; the document's frame as a text. -/
namespace Go.Proofs.YtficodklidaheaaDoor
open Go.ChangeShapes Go.WideShapes Go.RowKit

theorem IsRow.row8 {w : World} {a : Option Addr} {len cap : Nat} {zs : List Int} (h : IsRow .u8 w a len cap zs) : ∃ l : List Nat, l.length = len ∧ Row8 w (.slice a l.length cap) l ∧ len ≤ maxLen := by
  rcases h with ⟨rfl, rfl, rfl, rfl⟩ | ⟨x, rfl, hl, hm, hz, hc, hw⟩
  · exact ⟨[], rfl, ⟨none, 0, rfl, by simp, fun j hj => absurd hj (by simp)⟩, by simp [maxLen]⟩
  · have hlen : ((zs.take len).map Int.toNat).length = len := by rw [List.length_map, List.length_take]; omega
    refine ⟨(zs.take len).map Int.toNat, hlen, ⟨some x, cap, rfl, ?_, ?_⟩, by omega⟩
    · intro y hy
      obtain ⟨z, hz2, rfl⟩ := List.mem_map.1 hy
      have := bd_u8 (hw z (List.mem_of_mem_take hz2))
      omega
    · intro j hj
      rw [hlen] at hj
      refine ⟨x, rfl, ?_⟩
      rw [hc j (by omega)]
      have hjz : j < zs.length := by omega
      have hb := bd_u8 (hw zs[j] (List.getElem_mem hjz))
      have e : ((((zs.take len).map Int.toNat).getD j 0 : Nat) : Int) = zs.getD j 0 := by
        simp only [List.getD_eq_getElem?_getD, List.getElem?_map, List.getElem?_take, hj, if_true, List.getElem?_eq_getElem hjz, Option.map_some, Option.getD_some]
        omega
      rw [e]
theorem ref_conv {w : World} {l : List Nat} {v : Value} (h : Row8 w v (frameL l)) : (convert 22 9 v).run Tryd.prog w = .ok (.string (strN (frameL l))) w := conv8 h
end Go.Proofs.YtficodklidaheaaDoor
/- package limnographref04: Same. -/
namespace Go.Proofs.YtficodklidaheaaDoor
open Go.RowKit
attribute [local go_sem ↓] Go.wp_at_zero Go.wp_at_succ

/-- The value v is a slice of slices that read as the rows of bytes Ls. -/
def RowsAt (w : World) (v : Value) (Ls : List (List Nat)) : Prop :=
  ∃ ao c, v = .slice ao Ls.length c ∧ ∀ i, i < Ls.length → ∃ a ai ci, ao = some a ∧ w.cell? (a.add i) = some (.slice ai (Ls.getD i []).length ci) ∧ Row8 w (.slice ai (Ls.getD i []).length ci) (Ls.getD i [])
theorem RowsAt.kept {w w' : World} {v : Value} {Ls : List (List Nat)} (h : RowsAt w v Ls) (hk : Kept (fun _ => False) w w') : RowsAt w' v Ls := by
  obtain ⟨ao, c, rfl, hc⟩ := h
  refine ⟨ao, c, rfl, fun i hi => ?_⟩
  obtain ⟨a, ai, ci, rfl, h1, h2⟩ := hc i hi
  exact ⟨a, ai, ci, rfl, hk.cell h1 (fun x => x), h2.kept hk⟩
theorem RowsAt.take {w : World} {ao : Option Addr} {n c k : Nat} {Ls : List (List Nat)} (h : RowsAt w (.slice ao n c) Ls) (hk : k ≤ Ls.length) : RowsAt w (.slice ao k c) (Ls.take k) := by
  obtain ⟨ao', c', e, hc⟩ := h
  injection e with e1 e2 e3
  subst e1; subst e3
  have hl : (Ls.take k).length = k := by rw [List.length_take]; omega
  refine ⟨ao, c, by rw [hl], fun i hi => ?_⟩
  rw [hl] at hi
  have e : (Ls.take k).getD i [] = Ls.getD i [] := by simp only [List.getD_eq_getElem?_getD, List.getElem?_take, if_pos hi]
  rw [e]
  exact hc i (by omega)

set_option maxHeartbeats 1000000 in
theorem same_any (va vb : Value) (L : List (List Nat)) (hL : L.length ≤ 1000000000) (w : World) (HA : RowsAt w va L) (HB : RowsAt w vb L) :
    Calls Tryd.prog 17 #[va, vb] w fun e w' => e = .returned (.bool true) ∧ Kept (fun _ => False) w w' := by
  obtain ⟨ao, c, rfl, ha⟩ := HA
  obtain ⟨bo, d, rfl, hb⟩ := HB
  have HA := Lib.hid ha
  have HB := Lib.hid hb
  obtain ⟨N, hN⟩ : ∃ N, N = L.length := ⟨_, rfl⟩
  rw [← hN] at HA HB hL ⊢
  clear ha hb hN
  have en : ((N : Int) != (N : Int)) = false := by simp
  go_enter Tryd.func17, Tryd.ntmps17
  go_wp2
  go_loopw [5] (fun t wr => ∃ j : Nat, j ≤ N ∧ t = .int .i64 j ∧ Kept (fun _ => False) w wr) (fun t _ => N - (intOf t).toNat)
  case atStart => exact ⟨0, by omega, rfl, Kept.refl _ _⟩
  case round =>
    obtain ⟨j, hj, rfl, hk⟩ := hrel
    have HK := Lib.hid hk
    clear hk
    by_cases hd : j < N
    · have hd' : (j : Int) < (N : Int) := by omega
      have hj0 : (0 : Int) ≤ (j : Int) := by omega
      obtain ⟨a, ai, ci, rfl, h1, h2⟩ := HA.out j hd
      obtain ⟨b, bi, di, rfl, h3, h4⟩ := HB.out j hd
      have g1 := HK.out.cell h1 (fun x => x)
      have g3 := HK.out.cell h3 (fun x => x)
      have q2 := fun n => conv8 (h2.kept (HK.out.drewN n))
      have q4 := fun n => conv8 (h4.kept (HK.out.drewN n))
      obtain ⟨S, hS⟩ : ∃ S, S = strN (L.getD j []) := ⟨_, rfl⟩
      obtain ⟨M, hM⟩ : ∃ M, M = (L.getD j []).length := ⟨_, rfl⟩
      rw [← hS] at q2 q4
      rw [← hM] at q2 q4 g1 g3
      clear h1 h2 h3 h4 hS hM
      go_wp2
      go_quiet (fail)
      go_wp2
      go_roundw
      case rel => exact ⟨j + 1, hd, by go_num, HK.out.drewN _⟩
      case measure => simp [intOf]; omega
    · obtain rfl : j = N := by omega
      go_wp2
      go_ret
      exact ⟨rfl, HK.out⟩
end Go.Proofs.YtficodklidaheaaDoor
/- Frames one behind the other, plainly; Bulk. -/
namespace Go.Proofs.YtficodklidaheaaDoor
open Go.RowKit
attribute [local go_sem ↓] Go.wp_at_zero Go.wp_at_succ

/-- Frames one behind the other. -/
def allL (Ls : List (List Nat)) : List Nat := (Ls.map frameL).flatten
theorem allL_append (a b : List (List Nat)) : allL (a ++ b) = allL a ++ allL b := by simp [allL]
theorem allL_one (l : List Nat) : allL [l] = frameL l := by simp [allL]
theorem allL_cons (l : List Nat) (Ls : List (List Nat)) : allL (l :: Ls) = frameL l ++ allL Ls := by simp [allL]
theorem scan_frames (Ls : List (List Nat)) (hl : ∀ l ∈ Ls, l.length ≤ 65536) (r : List Nat) (L : List (List Nat)) (u e : Nat) (h : ScanR r L u e) : ScanR (allL Ls ++ r) (Ls ++ L) ((allL Ls).length + u) e := by
  induction Ls with
  | nil => simpa [allL] using h
  | cons l Ls ih =>
    have h1 := ih (fun x hx => hl x (List.mem_cons_of_mem _ hx))
    have h2 := ScanR.frame (hl l (by simp)) h1
    rw [allL_cons, List.append_assoc, List.length_append, frameL_len, Nat.add_assoc]
    exact h2
/-- A frame that is cut off. -/
theorem cut_first (p : List Nat) (hp : p.length ≤ 65536) (t : Nat) (h0 : 0 < t) (ht : t < 9 + p.length) : firstE ((frameL p).take t) = 2 := by
  have hl : ((frameL p).take t).length = t := by rw [List.length_take, frameL_len]; omega
  have h1 : ((frameL p).take t).getD 0 0 = 165 := by
    simp only [List.getD_eq_getElem?_getD, List.getElem?_take, if_pos h0]
    have := frame_cons p []
    rw [List.append_nil] at this
    rw [this]; rfl
  unfold firstE
  rw [hl, h1, if_neg (by omega), if_neg (by omega)]
  by_cases h9 : t < 9
  · rw [if_pos h9]
  · have hs : sizeL ((frameL p).take t) = p.length := by
      unfold sizeL
      have e : (((frameL p).take t).drop 1).take 4 = ((frameL p ++ []).drop 1).take 4 := by
        rw [List.append_nil, List.drop_take, List.take_take, Nat.min_eq_left (by omega)]
      rw [e, frame_drop1, num_four _ (by omega)]
    rw [if_neg h9, hs, if_neg (by omega), if_pos (by omega)]
/-- Frames, cut off anywhere. -/
theorem scan_cut (Ls : List (List Nat)) (hl : ∀ l ∈ Ls, l.length ≤ 65536) (k m : Nat) (hm : m ≤ Ls.length) (h1 : (allL (Ls.take m)).length ≤ k) (hk : k ≤ (allL Ls).length) (h2 : ∀ q, q ≤ Ls.length → m < q → k < (allL (Ls.take q)).length) :
    ∃ e, ScanR ((allL Ls).take k) (Ls.take m) (allL (Ls.take m)).length e ∧ ((e = 0 ∧ (allL (Ls.take m)).length = k) ∨ (e = 2 ∧ (allL (Ls.take m)).length ≠ k)) := by
  have hsp : allL Ls = allL (Ls.take m) ++ allL (Ls.drop m) := by rw [← allL_append, List.take_append_drop]
  have htk : (allL Ls).take k = allL (Ls.take m) ++ (allL (Ls.drop m)).take (k - (allL (Ls.take m)).length) := by
    rw [hsp, List.take_append, List.take_of_length_le h1]
  have hlt : ∀ l ∈ Ls.take m, l.length ≤ 65536 := fun l h => hl l (List.mem_of_mem_take h)
  by_cases he : (allL (Ls.take m)).length = k
  · refine ⟨0, ?_, .inl ⟨rfl, he⟩⟩
    rw [htk, he, Nat.sub_self, List.take_zero]
    have := scan_frames (Ls.take m) hlt [] [] 0 0 .done
    simpa [he] using this
  · refine ⟨2, ?_, .inr ⟨rfl, he⟩⟩
    have hmn : m < Ls.length := by
      rcases Nat.lt_or_eq_of_le hm with h | h
      · exact h
      · subst h
        rw [List.take_length] at he h1
        omega
    obtain ⟨p, hp⟩ : ∃ p, p = Ls[m] := ⟨_, rfl⟩
    have hd : Ls.drop m = p :: Ls.drop (m + 1) := by rw [hp]; exact List.drop_eq_getElem_cons hmn
    have hq := h2 (m + 1) (by omega) (by omega)
    have hsucc : Ls.take (m + 1) = Ls.take m ++ [p] := by rw [hp, List.take_add_one, List.getElem?_eq_getElem hmn]; rfl
    rw [hsucc, allL_append, allL_one, List.length_append, frameL_len] at hq
    have hpl : p.length ≤ 65536 := hl p (by rw [hp]; exact List.getElem_mem hmn)
    have ht : (allL (Ls.drop m)).take (k - (allL (Ls.take m)).length) = (frameL p).take (k - (allL (Ls.take m)).length) := by
      rw [hd, allL_cons, List.take_append_of_le_length (by rw [frameL_len]; omega)]
    have hf := cut_first p hpl (k - (allL (Ls.take m)).length) (by omega) (by omega)
    have hne : (frameL p).take (k - (allL (Ls.take m)).length) ≠ [] := by
      intro e
      have := congrArg List.length e
      rw [List.length_take, frameL_len] at this
      simp at this
      omega
    have hb := ScanR.bad _ hne (by rw [hf]; omega)
    rw [hf] at hb
    have := scan_frames (Ls.take m) hlt _ [] 0 2 hb
    rw [htk, ht]
    simpa using this

set_option maxHeartbeats 1000000 in
theorem bulk_any (va : Value) (L : List (List Nat)) (hL : L.length ≤ 9223372036854775807) (w : World) (HA : RowsAt w va L) (hb : ∀ l ∈ L, l.length ≤ 9223372036854775807) :
    Calls Tryd.prog 18 #[va, .int .i64 3000] w fun e w' => ∃ n : Nat, e = .returned (.int .i64 n) ∧ (n ≤ 3000 → ∀ l ∈ L, l.length ≤ 3000) ∧ w = w' := by
  obtain ⟨ao, c, rfl, ha⟩ := HA
  have HA := Lib.hid ha
  obtain ⟨N, hN⟩ : ∃ N, N = L.length := ⟨_, rfl⟩
  have HB : Hid (∀ i, i < N → (L.getD i []).length ≤ 9223372036854775807) := Lib.hid fun i hi => hb _ (by rw [List.getD_eq_getElem?_getD, List.getElem?_eq_getElem (by omega)]; simp)
  have HE : Hid (∀ n : Nat, (n ≤ 3000 → ∀ i, i < N → (L.getD i []).length ≤ 3000) → n ≤ 3000 → ∀ l ∈ L, l.length ≤ 3000) := Lib.hid fun n h hn l hl => by
    obtain ⟨i, hi, rfl⟩ := List.getElem_of_mem hl
    have := h hn i (by omega)
    rwa [List.getD_eq_getElem?_getD, List.getElem?_eq_getElem hi] at this
  rw [← hN] at HA hL ⊢
  clear ha hN hb
  go_enter Tryd.func18, Tryd.ntmps18
  go_wp2
  go_loopw [5, 6] (fun x t wr => ∃ n j : Nat, j ≤ N ∧ n ≤ 6002 ∧ x = .int .i64 n ∧ t = .int .i64 j ∧ (n ≤ 3000 → ∀ i, i < j → (L.getD i []).length ≤ 3000) ∧ w = wr) (fun _ t _ => N - (intOf t).toNat)
  case atStart => exact ⟨0, 0, by omega, by omega, rfl, rfl, fun _ i hi => absurd hi (by omega), rfl⟩
  case round =>
    obtain ⟨n, j, hj, hn, rfl, rfl, hall, rfl⟩ := hrel
    have HALL := Lib.hid hall
    clear hall
    by_cases hd : j < N
    · have hd' : (j : Int) < (N : Int) := by omega
      have hj0 : (0 : Int) ≤ (j : Int) := by omega
      by_cases hn3 : n ≤ 3000
      · have hn' : (n : Int) ≤ 3000 := by omega
        obtain ⟨a, ai, ci, rfl, h1, h2⟩ := HA.out j hd
        have hlen := HB.out j hd
        have HALL2 : Hid (∀ M, M = (L.getD j []).length → ∀ q : Nat, ((M ≤ 3001 ∧ q = n + 1 + M) ∨ (3001 < M ∧ q = n + 1 + 3001)) → q ≤ 3000 → ∀ i, i < j + 1 → (L.getD i []).length ≤ 3000) := Lib.hid fun M hM q hq hq3 i hi => by
          rcases Nat.lt_or_eq_of_le (Nat.le_of_lt_succ hi) with h | rfl
          · exact HALL.out hn3 i h
          · omega
        obtain ⟨M, hM⟩ : ∃ M, M = (L.getD j []).length := ⟨_, rfl⟩
        have HALL3 := Lib.hid (HALL2.out M hM)
        rw [← hM] at h1 hlen
        clear h2 hM
        have e1 : IntKind.i64.wrap ((n : Int) + 1) = ((n + 1 : Nat) : Int) := by rw [IntWalk.i64_in _ ⟨by omega, by omega⟩]; omega
        by_cases hm : M ≤ 3001
        · have cm : min (M : Int) 3001 = (M : Int) := by omega
          have e2 : IntKind.i64.wrap (((n + 1 : Nat) : Int) + (M : Int)) = ((n + 1 + M : Nat) : Int) := by rw [IntWalk.i64_in _ ⟨by omega, by omega⟩]; omega
          go_wp2
          go_roundw
          case rel => exact ⟨n + 1 + M, j + 1, hd, by omega, by go_num, by go_num, fun h => HALL3.out _ (.inl ⟨hm, rfl⟩) h, trivial⟩
          case measure => simp [intOf]; omega
        · have cm : min (M : Int) 3001 = 3001 := by omega
          have e2 : IntKind.i64.wrap (((n + 1 : Nat) : Int) + 3001) = ((n + 1 + 3001 : Nat) : Int) := by rw [IntWalk.i64_in _ ⟨by omega, by omega⟩]; omega
          go_wp2
          go_roundw
          case rel => exact ⟨n + 1 + 3001, j + 1, hd, by omega, by go_num, by go_num, fun h => HALL3.out _ (.inr ⟨by omega, rfl⟩) h, trivial⟩
          case measure => simp [intOf]; omega
      · have hn' : decide ((n : Int) ≤ 3000) = false := decide_eq_false (by omega)
        have HX : Hid (∀ l ∈ L, l.length ≤ 3000 ∨ 3000 < n) := Lib.hid fun _ _ => .inr (by omega)
        go_wp2
        go_ret
        exact ⟨n, rfl, fun h => absurd h hn3, rfl⟩
    · obtain rfl : j = N := by omega
      have HF := Lib.hid (HE.out n HALL.out)
      go_wp2
      go_ret
      exact ⟨n, rfl, HF.out, rfl⟩
end Go.Proofs.YtficodklidaheaaDoor
/- Layer 19 plainly: a disk of one file, whose bytes are frames one behind the other. -/
namespace Go.Proofs.YtficodklidaheaaDoor
open Go.RowKit

theorem putS_one {α : Type} (s : ByteArray) (f g : α) : putS [(s, f)] s g = [(s, g)] := by simp [putS, ltN_irrefl]
theorem putS_nil {α : Type} (s : ByteArray) (g : α) : putS [] s g = [(s, g)] := rfl
theorem getM_one {α : Type} (s : ByteArray) (f : α) : getM [(s, f)] s = some f := by simp [getM]
/-- A disk that won't fail. -/
structure Calm (D : DA) : Prop where
  down : D.down = false
  fail : D.failIn = -1
  crash : D.crashIn = -1
theorem Calm.begin {D : DA} (h : Calm D) : beginD D = (countedD D, 0) := by
  unfold beginD
  rw [h.down, h.crash, h.fail]
  rfl
theorem Calm.counted {D : DA} (h : Calm D) : Calm (countedD D) := ⟨h.down, by unfold countedD; rw [h.fail]; rfl, by unfold countedD; rw [h.crash]; rfl⟩
theorem Calm.behind {D : DA} (h : Calm D) (f : DA → DA × Int) : behindD D f = f (countedD D) := by unfold behindD; rw [h.begin]; rfl
/-- What a call's beginning leaves, if no call is to fail. -/
theorem beginD_one {D : DA} (hf : D.failIn = -1) : ((beginD D).2 = 0 ∨ (beginD D).2 = 13) ∧ (beginD D).1.L = D.L ∧ (beginD D).1.cap = D.cap ∧ (beginD D).1.failIn = -1 ∧ ((beginD D).2 = 13 → (beginD D).1.down = true) := by
  unfold beginD
  by_cases h1 : D.down = true
  · rw [if_pos h1]; exact ⟨.inr rfl, rfl, rfl, hf, fun _ => h1⟩
  rw [if_neg h1]
  have e1 : (countedD D).failIn = -1 := by unfold countedD; rw [hf]; rfl
  by_cases h2 : D.crashIn = 0
  · rw [if_pos h2]; exact ⟨.inr rfl, rfl, rfl, e1, fun _ => rfl⟩
  rw [if_neg h2, if_neg (by omega)]
  exact ⟨.inl rfl, rfl, rfl, e1, fun h => by cases h⟩
theorem behind_one {D : DA} (hf : D.failIn = -1) (f : DA → DA × Int) : (behindD D f = f (beginD D).1 ∧ (beginD D).2 = 0) ∨ (behindD D f = beginD D ∧ (beginD D).2 = 13) := by
  unfold behindD
  rcases (beginD_one hf).1 with h | h
  · exact .inl ⟨if_pos h, h⟩
  · exact .inr ⟨if_neg (by omega), h⟩
theorem append_one {D : DA} {s : ByteArray} {f : PF} (h : D.L = [(s, f)]) (hf : D.failIn = -1) (b : List Nat) :
    (((appendD D s b).2 = 0 ∧ (appendD D s b).1.L = [(s, ⟨f.b ++ b, f.s⟩)]) ∨ (((appendD D s b).2 = 12 ∨ (appendD D s b).2 = 13) ∧ (appendD D s b).1.L = [(s, f)])) ∧ (appendD D s b).1.failIn = -1 ∧ (appendD D s b).1.cap = D.cap := by
  obtain ⟨_, h2, h3, h4, _⟩ := beginD_one hf
  unfold appendD
  rcases behind_one hf (withF s fun f D => if D.cap - usedL D.L < (b.length : Int) then (D, 12) else ({ D with L := putS D.L s ⟨f.b ++ b, f.s⟩ }, 0)) with ⟨e, _⟩ | ⟨e, e2⟩
  · rw [e]
    unfold withF
    rw [h2, h, getM_one]
    dsimp only
    split
    · exact ⟨.inr ⟨.inl rfl, by rw [h2, h]⟩, h4, h3⟩
    · exact ⟨.inl ⟨rfl, by dsimp only; rw [h2, h, putS_one]⟩, h4, h3⟩
  · rw [e]
    exact ⟨.inr ⟨.inr e2, by rw [h2, h]⟩, h4, h3⟩
theorem sync_one {D : DA} {s : ByteArray} {f : PF} (h : D.L = [(s, f)]) (hf : D.failIn = -1) :
    (((syncD D s).2 = 0 ∧ (syncD D s).1.L = [(s, ⟨f.b, f.b.length⟩)]) ∨ ((syncD D s).2 = 13 ∧ (syncD D s).1.L = [(s, f)])) ∧ (syncD D s).1.failIn = -1 ∧ (syncD D s).1.cap = D.cap := by
  obtain ⟨_, h2, h3, h4, _⟩ := beginD_one hf
  unfold syncD
  rcases behind_one hf (withF s fun f D => ({ D with L := putS D.L s ⟨f.b, f.b.length⟩ }, 0)) with ⟨e, _⟩ | ⟨e, e2⟩
  · rw [e]
    unfold withF
    rw [h2, h, getM_one]
    exact ⟨.inl ⟨rfl, by dsimp only; rw [h2, h, putS_one]⟩, h4, h3⟩
  · rw [e]
    exact ⟨.inr ⟨e2, by rw [h2, h]⟩, h4, h3⟩
theorem append_calm {D : DA} {s : ByteArray} {f : PF} (h : D.L = [(s, f)]) (hc : Calm D) (b : List Nat) :
    (D.cap - f.b.length < (b.length : Int) ∧ (appendD D s b).2 = 12 ∧ (appendD D s b).1.L = [(s, f)] ∧ Calm (appendD D s b).1) ∨ (appendD D s b).2 = 0 ∧ (appendD D s b).1.L = [(s, ⟨f.b ++ b, f.s⟩)] ∧ Calm (appendD D s b).1 := by
  unfold appendD
  rw [hc.behind]
  unfold withF
  have e1 : (countedD D).L = D.L := rfl
  rw [e1, h, getM_one]
  have e2 : usedL [(s, f)] = f.b.length := by simp [usedL]
  dsimp only
  rw [e1, h, e2]
  have e3 : (countedD D).cap = D.cap := rfl
  rw [e3]
  by_cases hs : D.cap - (f.b.length : Int) < (b.length : Int)
  · rw [if_pos hs]
    exact .inl ⟨hs, rfl, by rw [e1, h], hc.counted⟩
  · rw [if_neg hs]
    exact .inr ⟨rfl, by dsimp only; rw [putS_one], ⟨hc.counted.down, hc.counted.fail, hc.counted.crash⟩⟩
theorem cut_calm {D : DA} {s : ByteArray} {f : PF} (h : D.L = [(s, f)]) (hc : Calm D) {n : Nat} (hn : n ≤ f.b.length) :
    (cutD D s n).2 = 0 ∧ (cutD D s n).1.L = [(s, cutF f n)] ∧ Calm (cutD D s n).1 ∧ (cutD D s n).1.cap = D.cap := by
  unfold cutD
  rw [hc.behind]
  unfold withF
  have e1 : (countedD D).L = D.L := rfl
  rw [e1, h, getM_one]
  dsimp only
  rw [if_neg (by omega), e1, h, putS_one]
  exact ⟨rfl, by rw [Int.toNat_natCast], ⟨hc.counted.down, hc.counted.fail, hc.counted.crash⟩, rfl⟩
theorem create_calm {D : DA} {s : ByteArray} (h : D.L = []) (hc : Calm D) (hn : nameB s = true) :
    (createD D s).2 = 0 ∧ (createD D s).1.L = [(s, ⟨[], 0⟩)] ∧ Calm (createD D s).1 ∧ (createD D s).1.cap = D.cap := by
  unfold createD
  rw [hc.behind]
  unfold createF
  have e1 : (countedD D).L = D.L := rfl
  rw [hn, e1, h]
  exact ⟨rfl, rfl, ⟨hc.counted.down, hc.counted.fail, hc.counted.crash⟩, rfl⟩
theorem create_bad {D : DA} {s : ByteArray} (hc : Calm D) (hn : nameB s = false) : createD D s = (countedD D, 3) := by
  unfold createD
  rw [hc.behind]
  unfold createF
  rw [hn]
  rfl
theorem boot_one {D : DA} {s : ByteArray} {f : PF} (h : D.L = [(s, f)]) (hd : D.down = true) (keep : List Int) :
    (bootD D keep).2 = 0 ∧ (bootD D keep).1.L = [(s, bootF (keep.headD 0) f)] ∧ Calm (bootD D keep).1 ∧ (bootD D keep).1.cap = D.cap := by
  unfold bootD
  rw [if_pos hd]
  exact ⟨rfl, by dsimp only; rw [h]; rfl, ⟨rfl, rfl, rfl⟩, rfl⟩
/-- How many bytes the first records have, framed. -/
def enL (Ls : List (List Nat)) (m : Nat) : Nat := (allL (Ls.take m)).length
theorem enL_mono (Ls : List (List Nat)) {a b : Nat} (h : a ≤ b) : enL Ls a ≤ enL Ls b := by
  unfold enL
  have : Ls.take b = Ls.take a ++ (Ls.take b).drop a := by
    conv => lhs; rw [← List.take_append_drop a (Ls.take b)]
    rw [List.take_take, Nat.min_eq_left h]
  rw [this, allL_append, List.length_append]
  omega
theorem enL_all (Ls : List (List Nat)) : enL Ls Ls.length = (allL Ls).length := by unfold enL; rw [List.take_length]
/-- The greatest number of frames within so many bytes. -/
theorem enL_cut (Ls : List (List Nat)) (k : Nat) : ∃ m, m ≤ Ls.length ∧ enL Ls m ≤ k ∧ ∀ q, q ≤ Ls.length → m < q → k < enL Ls q := by
  have key : ∀ n, n ≤ Ls.length → ∃ m, m ≤ n ∧ enL Ls m ≤ k ∧ ∀ q, q ≤ n → m < q → k < enL Ls q := by
    intro n
    induction n with
    | zero => intro _; exact ⟨0, Nat.le_refl _, by simp [enL, allL], fun q h1 h2 => by omega⟩
    | succ n ih =>
      intro hn
      by_cases h : enL Ls (n + 1) ≤ k
      · exact ⟨n + 1, Nat.le_refl _, h, fun q h1 h2 => by omega⟩
      · obtain ⟨m, h1, h2, h3⟩ := ih (by omega)
        refine ⟨m, by omega, h2, fun q hq hm => ?_⟩
        by_cases e : q = n + 1
        · rw [e]; omega
        · exact h3 q (by omega) hm
  exact key _ (Nat.le_refl _)
/-- What is read of frames that were cut off: all that lie whole within. -/
theorem wal_cut (Ls : List (List Nat)) (hl : ∀ l ∈ Ls, l.length ≤ 65536) {k sure : Nat} (hk : k ≤ (allL Ls).length) (hs : sure ≤ Ls.length) (hs2 : enL Ls sure ≤ k) :
    ∃ m e, m ≤ Ls.length ∧ sure ≤ m ∧ ScanR ((allL Ls).take k) (Ls.take m) (enL Ls m) e ∧ (e = 0 ∨ e = 2) ∧ enL Ls m ≤ k := by
  obtain ⟨m, h1, h2, h3⟩ := enL_cut Ls k
  obtain ⟨e, h4, h5⟩ := scan_cut Ls hl k m h1 h2 hk h3
  refine ⟨m, e, h1, ?_, h4, h5.imp (·.1) (·.1), h2⟩
  rcases Nat.lt_or_ge m sure with h | h
  · have := h3 sure hs h; omega
  · exact h
theorem scan_all (Ls : List (List Nat)) (hl : ∀ l ∈ Ls, l.length ≤ 65536) : ScanR (allL Ls) Ls (allL Ls).length 0 := by
  have := scan_frames Ls hl [] [] 0 0 .done
  simpa using this
end Go.Proofs.YtficodklidaheaaDoor
/- Rows of bytes that are owned, as rows. -/
namespace Go.Proofs.YtficodklidaheaaDoor
open Go.RowKit

theorem own_RowsAt {w : World} {B C : Nat} {v : Value} {vs : List Value} {Ls : List (List Nat)} (hb : ∀ l ∈ Ls, ∀ x ∈ l, x < 256) (ho : w.ownsRow B 22 1 v vs.length vs) (hr : Rows8 w C vs Ls) : RowsAt w v Ls := by
  have hl := hr.length
  obtain ⟨ao, c, rfl⟩ := ownsRow_slice ho
  rw [hl]
  refine ⟨ao, c, rfl, fun i hi => ?_⟩
  obtain ⟨u, hu, h8⟩ := hr.at_ i hi
  obtain ⟨g, cap, hv, _, _⟩ := own_at ho (by omega)
  injection hv with h1 h2 h3
  subst h1
  have hc := ho.cells (g := g) rfl i u hu
  obtain ⟨ai, ci, rfl⟩ := ownsRow_slice h8
  exact ⟨_, ai, ci, rfl, hc, row8_own (hb _ (by rw [List.getD_eq_getElem?_getD, List.getElem?_eq_getElem hi]; simp)) h8⟩
end Go.Proofs.YtficodklidaheaaDoor
