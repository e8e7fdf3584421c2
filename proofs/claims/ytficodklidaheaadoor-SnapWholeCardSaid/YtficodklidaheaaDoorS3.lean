/- Layer 18: which texts are names: isName, the document's Name (written by tools/gen_XS3.py). -/
import Derived.Test.YtficodklidaheaaDoorS1
namespace Go.Proofs.YtficodklidaheaaDoor
open Go.RowKit
attribute [local go_sem ↓] Go.wp_at_zero Go.wp_at_succ

theorem nameB_no {s : ByteArray} (h : ¬ (1 ≤ s.size ∧ s.size ≤ 32)) : nameB s = false := by
  cases e : nameB s
  · rfl
  · exact absurd (nameB_size e) h
theorem nameB_at {s : ByteArray} {i : Nat} (hi : i < s.size) (h : nameC (chr s i) = false) : nameB s = false := by
  cases e : nameB s
  · rfl
  · unfold nameB at e
    simp only [Bool.and_eq_true, List.all_eq_true] at e
    have := e.2 _ (List.mem_of_getElem? (bl_get hi))
    rw [h] at this
    cases this
theorem nameB_yes {s : ByteArray} (h : 1 ≤ s.size ∧ s.size ≤ 32) (ha : ∀ j, j < s.size → nameC (chr s j) = true) : nameB s = true := by
  unfold nameB
  simp only [Bool.and_eq_true, List.all_eq_true, decide_eq_true_eq]
  refine ⟨h, fun x hx => ?_⟩
  obtain ⟨j, hj⟩ := List.mem_iff_getElem?.1 hx
  have hl : j < s.size := by
    have := (List.getElem?_eq_some_iff.1 hj).1
    rwa [bl_length] at this
  rw [bl_get hl] at hj
  injection hj with hj
  rw [← hj]
  exact ha j hl
theorem all_succN {s : ByteArray} {i : Nat} (h : ∀ j, j < i → nameC (chr s j) = true) (hi : nameC (chr s i) = true) : ∀ j, j < i + 1 → nameC (chr s j) = true := fun j hj => by
  by_cases e : j = i
  · rw [e]; exact hi
  · exact h j (by omega)

set_option maxHeartbeats 4000000 in
theorem isName_any (s : ByteArray) (w : World) (hs : s.size ≤ 9223372036854775807) :
    Calls Tryd.prog 64 #[.string s] w fun e w' => e = .returned (.bool (nameB s)) ∧ w = w' := by
  have hS : ∀ i, i < s.size → ∀ w, (Instr.index 9 (.string s) (.int .i64 (i : Int))).run Tryd.prog w = .ok (.int .u8 (chr s i : Int)) w := fun i hi w => run_chr Tryd.underlying9 s i hi w
  by_cases h0 : s.size = 0
  · have HR := Lib.hid (nameB_no (s := s) (by omega))
    have q : ((s.size : Int) == 0) = true := by simp [h0]
    have q' : (s.size == 0) = true := by simp [h0]
    clear hS h0
    go_enter Tryd.func64, Tryd.ntmps64
    go_wp2
    go_ret
    exact ⟨by rw [HR.out]; rfl, rfl⟩
  have q : ((s.size : Int) == 0) = false := by simp [h0]
  have q' : (s.size == 0) = false := by simp [h0]
  by_cases h1 : 32 < s.size
  · have HR := Lib.hid (nameB_no (s := s) (by omega))
    have q1 : (32 : Int) < (s.size : Int) := by omega
    have q2 : decide (32 < s.size) = true := decide_eq_true h1
    clear hS h0
    go_enter Tryd.func64, Tryd.ntmps64
    go_wp2
    go_ret
    exact ⟨by rw [HR.out]; rfl, rfl⟩
  have q1 : ¬ (32 : Int) < (s.size : Int) := by omega
  have q2 : decide (32 < s.size) = false := decide_eq_false h1
  have HS := Lib.hid hS
  have HN := Lib.hid (show 1 ≤ s.size ∧ s.size ≤ 32 from ⟨by omega, by omega⟩)
  obtain ⟨n, hn⟩ : ∃ n, n = s.size := ⟨_, rfl⟩
  have HNN := Lib.hid hn
  clear hS h0 h1
  go_enter Tryd.func64, Tryd.ntmps64
  go_wp2
  rw [← hn]
  clear hs q q' q1 q2 hn
  go_loopg [15] n (fun g s0 wr => ∃ i : Nat, i ≤ n ∧ g = n - i ∧ s0 = .int .i64 i ∧ w = wr ∧ ∀ j, j < i → nameC (chr s j) = true)
  case atStart => exact ⟨0, Nat.zero_le _, rfl, rfl, rfl, fun j hj => by omega⟩
  case round =>
    obtain ⟨i, hin, rfl, rfl, rfl, ha⟩ := hrel
    have HA := Lib.hid ha
    clear ha
    by_cases hd : i < n
    · have hdi : (i : Int) < (n : Int) := by omega
      skip
      have HD := Lib.hid hd
      have wi : IntKind.i64.wrap ((i : Int) + 1) = ((i + 1 : Nat) : Int) := by rw [IntWalk.i64_in _ ⟨by omega, by have := HN.out; have := HNN.out; omega⟩]; omega
      have hix := HS.out i (by have := HNN.out; omega)
      have hlt := chr_lt s i
      obtain ⟨c, hc⟩ : ∃ c, c = chr s i := ⟨_, rfl⟩
      rw [← hc] at hix hlt
      have HC := Lib.hid hc
      clear hd hin hc
      have hcase : (c < 45) ∨ (c = 45) ∨ (c = 46) ∨ (c = 47) ∨ (48 ≤ c ∧ c ≤ 57) ∨ (58 ≤ c ∧ c ≤ 96) ∨ (97 ≤ c ∧ c ≤ 122) ∨ (123 ≤ c) := by omega
      rcases hcase with c1 | rfl | rfl | rfl | ⟨c1, c2⟩ | ⟨c1, c2⟩ | ⟨c1, c2⟩ | c1
      · have HR := Lib.hid (nameB_at (s := s) (i := i) (by have := HNN.out; have := HD.out; omega) (by rw [← HC.out]; unfold nameC; simp; omega))
        have g1 : (c : Int) < 97 := by omega
        have g1d : decide (c < 97) = true := decide_eq_true (by omega)
        have g2 : ¬ (122 : Int) < (c : Int) := by omega
        have g2d : decide (122 < c) = false := decide_eq_false (by omega)
        have g3 : (c : Int) < 48 := by omega
        have g3d : decide (c < 48) = true := decide_eq_true (by omega)
        have g4 : ¬ (57 : Int) < (c : Int) := by omega
        have g4d : decide (57 < c) = false := decide_eq_false (by omega)
        have g5 : ((c : Int) != 46) = true := bneT (by omega)
        have g5d : (c != 46) = true := by simp; omega
        have g6 : ((c : Int) != 45) = true := bneT (by omega)
        have g6d : (c != 45) = true := by simp; omega
        clear c1
        go_wp2
        go_ret
        exact ⟨by rw [HR.out]; rfl, rfl⟩
      · have HOK := Lib.hid (show nameC (chr s i) = true from by rw [← HC.out]; rfl)
        go_wp2
        go_roundg (n - (i + 1))
        case measure => have := HD.out; omega
        case rel => exact ⟨i + 1, HD.out, rfl, rfl, rfl, all_succN HA.out HOK.out⟩
      · have HOK := Lib.hid (show nameC (chr s i) = true from by rw [← HC.out]; rfl)
        go_wp2
        go_roundg (n - (i + 1))
        case measure => have := HD.out; omega
        case rel => exact ⟨i + 1, HD.out, rfl, rfl, rfl, all_succN HA.out HOK.out⟩
      · have HR := Lib.hid (nameB_at (s := s) (i := i) (by have := HNN.out; have := HD.out; omega) (by rw [← HC.out]; rfl))
        go_wp2
        go_ret
        exact ⟨by rw [HR.out]; rfl, rfl⟩
      · have HOK := Lib.hid (show nameC (chr s i) = true from by rw [← HC.out]; unfold nameC; simp; omega)
        have g1 : (c : Int) < 97 := by omega
        have g1d : decide (c < 97) = true := decide_eq_true (by omega)
        have g2 : ¬ (122 : Int) < (c : Int) := by omega
        have g2d : decide (122 < c) = false := decide_eq_false (by omega)
        have g3 : ¬ (c : Int) < 48 := by omega
        have g3d : decide (c < 48) = false := decide_eq_false (by omega)
        have g4 : ¬ (57 : Int) < (c : Int) := by omega
        have g4d : decide (57 < c) = false := decide_eq_false (by omega)
        have g5 : ((c : Int) != 46) = true := bneT (by omega)
        have g5d : (c != 46) = true := by simp; omega
        have g6 : ((c : Int) != 45) = true := bneT (by omega)
        have g6d : (c != 45) = true := by simp; omega
        clear c1 c2
        go_wp2
        go_roundg (n - (i + 1))
        case measure => have := HD.out; omega
        case rel => exact ⟨i + 1, HD.out, rfl, rfl, rfl, all_succN HA.out HOK.out⟩
      · have HR := Lib.hid (nameB_at (s := s) (i := i) (by have := HNN.out; have := HD.out; omega) (by rw [← HC.out]; unfold nameC; simp; omega))
        have g1 : (c : Int) < 97 := by omega
        have g1d : decide (c < 97) = true := decide_eq_true (by omega)
        have g2 : ¬ (122 : Int) < (c : Int) := by omega
        have g2d : decide (122 < c) = false := decide_eq_false (by omega)
        have g3 : ¬ (c : Int) < 48 := by omega
        have g3d : decide (c < 48) = false := decide_eq_false (by omega)
        have g4 : (57 : Int) < (c : Int) := by omega
        have g4d : decide (57 < c) = true := decide_eq_true (by omega)
        have g5 : ((c : Int) != 46) = true := bneT (by omega)
        have g5d : (c != 46) = true := by simp; omega
        have g6 : ((c : Int) != 45) = true := bneT (by omega)
        have g6d : (c != 45) = true := by simp; omega
        clear c1 c2
        go_wp2
        go_ret
        exact ⟨by rw [HR.out]; rfl, rfl⟩
      · have HOK := Lib.hid (show nameC (chr s i) = true from by rw [← HC.out]; unfold nameC; simp; omega)
        have g1 : ¬ (c : Int) < 97 := by omega
        have g1d : decide (c < 97) = false := decide_eq_false (by omega)
        have g2 : ¬ (122 : Int) < (c : Int) := by omega
        have g2d : decide (122 < c) = false := decide_eq_false (by omega)
        have g3 : ¬ (c : Int) < 48 := by omega
        have g3d : decide (c < 48) = false := decide_eq_false (by omega)
        have g4 : (57 : Int) < (c : Int) := by omega
        have g4d : decide (57 < c) = true := decide_eq_true (by omega)
        have g5 : ((c : Int) != 46) = true := bneT (by omega)
        have g5d : (c != 46) = true := by simp; omega
        have g6 : ((c : Int) != 45) = true := bneT (by omega)
        have g6d : (c != 45) = true := by simp; omega
        clear c1 c2
        go_wp2
        go_roundg (n - (i + 1))
        case measure => have := HD.out; omega
        case rel => exact ⟨i + 1, HD.out, rfl, rfl, rfl, all_succN HA.out HOK.out⟩
      · have HR := Lib.hid (nameB_at (s := s) (i := i) (by have := HNN.out; have := HD.out; omega) (by rw [← HC.out]; unfold nameC; simp; omega))
        have g1 : ¬ (c : Int) < 97 := by omega
        have g1d : decide (c < 97) = false := decide_eq_false (by omega)
        have g2 : (122 : Int) < (c : Int) := by omega
        have g2d : decide (122 < c) = true := decide_eq_true (by omega)
        have g3 : ¬ (c : Int) < 48 := by omega
        have g3d : decide (c < 48) = false := decide_eq_false (by omega)
        have g4 : (57 : Int) < (c : Int) := by omega
        have g4d : decide (57 < c) = true := decide_eq_true (by omega)
        have g5 : ((c : Int) != 46) = true := bneT (by omega)
        have g5d : (c != 46) = true := by simp; omega
        have g6 : ((c : Int) != 45) = true := bneT (by omega)
        have g6d : (c != 45) = true := by simp; omega
        clear c1
        go_wp2
        go_ret
        exact ⟨by rw [HR.out]; rfl, rfl⟩
    · have hdi : ¬ (i : Int) < (n : Int) := by omega
      skip
      have hie : i = n := by omega
      have HR := Lib.hid (nameB_yes HN.out (fun j hj => HA.out j (by have := HNN.out; omega)))
      clear hd hin hie
      go_wp2
      go_ret
      exact ⟨by rw [HR.out]; rfl, rfl⟩
set_option maxHeartbeats 4000000 in
theorem refName_any (s : ByteArray) (w : World) (hs : s.size ≤ 9223372036854775807) :
    Calls Tryd.prog 72 #[.string s] w fun e w' => e = .returned (.bool (nameB s)) ∧ w = w' := by
  have hS : ∀ i, i < s.size → ∀ w, (Instr.index 9 (.string s) (.int .i64 (i : Int))).run Tryd.prog w = .ok (.int .u8 (chr s i : Int)) w := fun i hi w => run_chr Tryd.underlying9 s i hi w
  by_cases h0 : s.size = 0
  · have HR := Lib.hid (nameB_no (s := s) (by omega))
    have q : (s.size : Int) < 1 := by omega
    have q' : decide (s.size < 1) = true := decide_eq_true (by omega)
    clear hS h0
    go_enter Tryd.func72, Tryd.ntmps72
    go_wp2
    go_ret
    exact ⟨by rw [HR.out]; rfl, rfl⟩
  have q : ¬ (s.size : Int) < 1 := by omega
  have q' : decide (s.size < 1) = false := decide_eq_false (by omega)
  by_cases h1 : 32 < s.size
  · have HR := Lib.hid (nameB_no (s := s) (by omega))
    have q1 : (32 : Int) < (s.size : Int) := by omega
    have q2 : decide (32 < s.size) = true := decide_eq_true h1
    clear hS h0
    go_enter Tryd.func72, Tryd.ntmps72
    go_wp2
    go_ret
    exact ⟨by rw [HR.out]; rfl, rfl⟩
  have q1 : ¬ (32 : Int) < (s.size : Int) := by omega
  have q2 : decide (32 < s.size) = false := decide_eq_false h1
  have HS := Lib.hid hS
  have HN := Lib.hid (show 1 ≤ s.size ∧ s.size ≤ 32 from ⟨by omega, by omega⟩)
  obtain ⟨n, hn⟩ : ∃ n, n = s.size := ⟨_, rfl⟩
  have HNN := Lib.hid hn
  clear hS h0 h1
  go_enter Tryd.func72, Tryd.ntmps72
  go_wp2
  rw [← hn]
  clear hs q q' q1 q2 hn
  go_loopg [3] n (fun g s0 wr => ∃ i : Nat, i ≤ n ∧ g = n - i ∧ s0 = .int .i64 i ∧ w = wr ∧ ∀ j, j < i → nameC (chr s j) = true)
  case atStart => exact ⟨0, Nat.zero_le _, rfl, rfl, rfl, fun j hj => by omega⟩
  case round =>
    obtain ⟨i, hin, rfl, rfl, rfl, ha⟩ := hrel
    have HA := Lib.hid ha
    clear ha
    by_cases hd : i < n
    · have hdi : (i : Int) < (n : Int) := by omega
      have hls : (s.size : Int) = (n : Int) := by have := HNN.out; omega
      have HD := Lib.hid hd
      have wi : IntKind.i64.wrap ((i : Int) + 1) = ((i + 1 : Nat) : Int) := by rw [IntWalk.i64_in _ ⟨by omega, by have := HN.out; have := HNN.out; omega⟩]; omega
      have hix := HS.out i (by have := HNN.out; omega)
      have hlt := chr_lt s i
      obtain ⟨c, hc⟩ : ∃ c, c = chr s i := ⟨_, rfl⟩
      rw [← hc] at hix hlt
      have HC := Lib.hid hc
      clear hd hin hc
      have hcase : (c < 45) ∨ (c = 45) ∨ (c = 46) ∨ (c = 47) ∨ (48 ≤ c ∧ c ≤ 57) ∨ (58 ≤ c ∧ c ≤ 96) ∨ (97 ≤ c ∧ c ≤ 122) ∨ (123 ≤ c) := by omega
      rcases hcase with c1 | rfl | rfl | rfl | ⟨c1, c2⟩ | ⟨c1, c2⟩ | ⟨c1, c2⟩ | c1
      · have HR := Lib.hid (nameB_at (s := s) (i := i) (by have := HNN.out; have := HD.out; omega) (by rw [← HC.out]; unfold nameC; simp; omega))
        have g1 : ¬ (97 : Int) ≤ (c : Int) := by omega
        have g1d : decide (97 ≤ c) = false := decide_eq_false (by omega)
        have g2 : (c : Int) ≤ 122 := by omega
        have g2d : decide (c ≤ 122) = true := decide_eq_true (by omega)
        have g3 : ¬ (48 : Int) ≤ (c : Int) := by omega
        have g3d : decide (48 ≤ c) = false := decide_eq_false (by omega)
        have g4 : (c : Int) ≤ 57 := by omega
        have g4d : decide (c ≤ 57) = true := decide_eq_true (by omega)
        have g5 : ((c : Int) != 46) = true := bneT (by omega)
        have g5d : (c != 46) = true := by simp; omega
        have g6 : ((c : Int) != 45) = true := bneT (by omega)
        have g6d : (c != 45) = true := by simp; omega
        clear c1
        go_wp2
        go_ret
        exact ⟨by rw [HR.out]; rfl, rfl⟩
      · have HOK := Lib.hid (show nameC (chr s i) = true from by rw [← HC.out]; rfl)
        go_wp2
        go_roundg (n - (i + 1))
        case measure => have := HD.out; omega
        case rel => exact ⟨i + 1, HD.out, rfl, rfl, rfl, all_succN HA.out HOK.out⟩
      · have HOK := Lib.hid (show nameC (chr s i) = true from by rw [← HC.out]; rfl)
        go_wp2
        go_roundg (n - (i + 1))
        case measure => have := HD.out; omega
        case rel => exact ⟨i + 1, HD.out, rfl, rfl, rfl, all_succN HA.out HOK.out⟩
      · have HR := Lib.hid (nameB_at (s := s) (i := i) (by have := HNN.out; have := HD.out; omega) (by rw [← HC.out]; rfl))
        go_wp2
        go_ret
        exact ⟨by rw [HR.out]; rfl, rfl⟩
      · have HOK := Lib.hid (show nameC (chr s i) = true from by rw [← HC.out]; unfold nameC; simp; omega)
        have g1 : ¬ (97 : Int) ≤ (c : Int) := by omega
        have g1d : decide (97 ≤ c) = false := decide_eq_false (by omega)
        have g2 : (c : Int) ≤ 122 := by omega
        have g2d : decide (c ≤ 122) = true := decide_eq_true (by omega)
        have g3 : (48 : Int) ≤ (c : Int) := by omega
        have g3d : decide (48 ≤ c) = true := decide_eq_true (by omega)
        have g4 : (c : Int) ≤ 57 := by omega
        have g4d : decide (c ≤ 57) = true := decide_eq_true (by omega)
        have g5 : ((c : Int) != 46) = true := bneT (by omega)
        have g5d : (c != 46) = true := by simp; omega
        have g6 : ((c : Int) != 45) = true := bneT (by omega)
        have g6d : (c != 45) = true := by simp; omega
        clear c1 c2
        go_wp2
        go_roundg (n - (i + 1))
        case measure => have := HD.out; omega
        case rel => exact ⟨i + 1, HD.out, rfl, rfl, rfl, all_succN HA.out HOK.out⟩
      · have HR := Lib.hid (nameB_at (s := s) (i := i) (by have := HNN.out; have := HD.out; omega) (by rw [← HC.out]; unfold nameC; simp; omega))
        have g1 : ¬ (97 : Int) ≤ (c : Int) := by omega
        have g1d : decide (97 ≤ c) = false := decide_eq_false (by omega)
        have g2 : (c : Int) ≤ 122 := by omega
        have g2d : decide (c ≤ 122) = true := decide_eq_true (by omega)
        have g3 : (48 : Int) ≤ (c : Int) := by omega
        have g3d : decide (48 ≤ c) = true := decide_eq_true (by omega)
        have g4 : ¬ (c : Int) ≤ 57 := by omega
        have g4d : decide (c ≤ 57) = false := decide_eq_false (by omega)
        have g5 : ((c : Int) != 46) = true := bneT (by omega)
        have g5d : (c != 46) = true := by simp; omega
        have g6 : ((c : Int) != 45) = true := bneT (by omega)
        have g6d : (c != 45) = true := by simp; omega
        clear c1 c2
        go_wp2
        go_ret
        exact ⟨by rw [HR.out]; rfl, rfl⟩
      · have HOK := Lib.hid (show nameC (chr s i) = true from by rw [← HC.out]; unfold nameC; simp; omega)
        have g1 : (97 : Int) ≤ (c : Int) := by omega
        have g1d : decide (97 ≤ c) = true := decide_eq_true (by omega)
        have g2 : (c : Int) ≤ 122 := by omega
        have g2d : decide (c ≤ 122) = true := decide_eq_true (by omega)
        have g3 : (48 : Int) ≤ (c : Int) := by omega
        have g3d : decide (48 ≤ c) = true := decide_eq_true (by omega)
        have g4 : ¬ (c : Int) ≤ 57 := by omega
        have g4d : decide (c ≤ 57) = false := decide_eq_false (by omega)
        have g5 : ((c : Int) != 46) = true := bneT (by omega)
        have g5d : (c != 46) = true := by simp; omega
        have g6 : ((c : Int) != 45) = true := bneT (by omega)
        have g6d : (c != 45) = true := by simp; omega
        clear c1 c2
        go_wp2
        go_roundg (n - (i + 1))
        case measure => have := HD.out; omega
        case rel => exact ⟨i + 1, HD.out, rfl, rfl, rfl, all_succN HA.out HOK.out⟩
      · have HR := Lib.hid (nameB_at (s := s) (i := i) (by have := HNN.out; have := HD.out; omega) (by rw [← HC.out]; unfold nameC; simp; omega))
        have g1 : (97 : Int) ≤ (c : Int) := by omega
        have g1d : decide (97 ≤ c) = true := decide_eq_true (by omega)
        have g2 : ¬ (c : Int) ≤ 122 := by omega
        have g2d : decide (c ≤ 122) = false := decide_eq_false (by omega)
        have g3 : (48 : Int) ≤ (c : Int) := by omega
        have g3d : decide (48 ≤ c) = true := decide_eq_true (by omega)
        have g4 : ¬ (c : Int) ≤ 57 := by omega
        have g4d : decide (c ≤ 57) = false := decide_eq_false (by omega)
        have g5 : ((c : Int) != 46) = true := bneT (by omega)
        have g5d : (c != 46) = true := by simp; omega
        have g6 : ((c : Int) != 45) = true := bneT (by omega)
        have g6d : (c != 45) = true := by simp; omega
        clear c1
        go_wp2
        go_ret
        exact ⟨by rw [HR.out]; rfl, rfl⟩
    · have hdi : ¬ (i : Int) < (n : Int) := by omega
      have hls : (s.size : Int) = (n : Int) := by have := HNN.out; omega
      have hie : i = n := by omega
      have HR := Lib.hid (nameB_yes HN.out (fun j hj => HA.out j (by have := HNN.out; omega)))
      clear hd hin hie
      go_wp2
      go_ret
      exact ⟨by rw [HR.out]; rfl, rfl⟩
end Go.Proofs.YtficodklidaheaaDoor
