/- Layer 11: isValue, the document's Value and Name (written by tools/gen_XA2.py). -/
import Derived.Test.YtkgjkcfjkjkflaaDoorA1
namespace Go.Proofs.YtkgjkcfjkjkflaaDoor
open Go.RowKit
attribute [local go_sem ↓] Go.wp_at_zero Go.wp_at_succ


set_option maxHeartbeats 4000000 in
theorem isValue_any (s : ByteArray) (w : World) (hs : s.size ≤ 9223372036854775807) :
    Calls Tryd.prog 20 #[.string s] w fun e w' => e = .returned (.bool (valueB s)) ∧ w = w' := by
  have hS : ∀ i, i < s.size → ∀ w, (Instr.index 9 (.string s) (.int .i64 (i : Int))).run Tryd.prog w = .ok (.int .u8 (chr s i : Int)) w := fun i hi w => run_chr Tryd.underlying9 s i hi w
  obtain ⟨n, hn⟩ : ∃ n, n = s.size := ⟨_, rfl⟩
  by_cases h0 : s.size = 0
  · have HR := Lib.hid (valueB_no (s := s) (by omega))
    have q : ((s.size : Int) == 0) = true := by simp [h0]
    have q' : (s.size == 0) = true := by simp [h0]
    clear hS h0 hn
    go_enter Tryd.func20, Tryd.ntmps20
    go_wp2
    go_ret
    exact ⟨by rw [HR.out]; rfl, rfl⟩
  have q : ((s.size : Int) == 0) = false := by simp [h0]
  have q' : (s.size == 0) = false := by simp [h0]
  by_cases h1 : 32 < s.size
  · have HR := Lib.hid (valueB_no (s := s) (by omega))
    have q1 : (32 : Int) < (s.size : Int) := by omega
    have q2 : decide (32 < s.size) = true := decide_eq_true h1
    clear hS h0 hn
    go_enter Tryd.func20, Tryd.ntmps20
    go_wp2
    go_ret
    exact ⟨by rw [HR.out]; rfl, rfl⟩
  have q1 : ¬ (32 : Int) < (s.size : Int) := by omega
  have q2 : decide (32 < s.size) = false := decide_eq_false h1
  have HS := Lib.hid hS
  have HN := Lib.hid (show 1 ≤ s.size ∧ s.size ≤ 32 from ⟨by omega, by omega⟩)
  have HNN := Lib.hid hn
  clear hS h0 h1
  go_enter Tryd.func20, Tryd.ntmps20
  go_wp2
  rw [← hn]
  clear hs q q' q1 q2 hn
  go_loopg [15] n (fun g s15 wr => ∃ i : Nat, i ≤ n ∧ g = n - i ∧ s15 = .int .i64 i ∧ w = wr ∧ ∀ j, j < i → okV (chr s j) = true)
  case atStart => exact ⟨0, Nat.zero_le _, rfl, rfl, rfl, fun j hj => by omega⟩
  case round =>
    obtain ⟨i, hin, rfl, rfl, rfl, ha⟩ := hrel
    have HA := Lib.hid ha
    clear ha
    by_cases hd : i < n
    · have hdi : (i : Int) < (n : Int) := by omega
      have HD := Lib.hid hd
      have wi : IntKind.i64.wrap ((i : Int) + 1) = ((i + 1 : Nat) : Int) := by rw [IntWalk.i64_in _ ⟨by omega, by have := HN.out; have := HNN.out; omega⟩]; omega
      have hix := HS.out i (by have := HNN.out; omega)
      have hlt := chr_lt s i
      obtain ⟨c, hc⟩ : ∃ c, c = chr s i := ⟨_, rfl⟩
      rw [← hc] at hix hlt
      have HC := Lib.hid hc
      clear hd hin hc
      have hcase : c ≤ 32 ∨ 126 < c ∨ c = 61 ∨ c = 59 ∨ c = 44 ∨ (33 ≤ c ∧ c ≤ 126 ∧ c ≠ 61 ∧ c ≠ 59 ∧ c ≠ 44) := by omega
      rcases hcase with hc | hc | rfl | rfl | rfl | hc
      · have g1 : (c : Int) < 33 := by omega
        have g2 : decide (c < 33) = true := decide_eq_true (by omega)
        have HR := Lib.hid (valueB_at (s := s) (i := i) (by have := HNN.out; have := HD.out; omega) (by rw [← HC.out]; exact decide_eq_false (by omega)))
        clear hc
        go_wp2
        all_goals
          go_ret
          exact ⟨by rw [HR.out]; rfl, rfl⟩
      · have g3 : ¬ (c : Int) < 33 := by omega
        have g4 : decide (c < 33) = false := decide_eq_false (by omega)
        have g5 : (126 : Int) < (c : Int) := by omega
        have g6 : decide (126 < c) = true := decide_eq_true (by omega)
        have HR := Lib.hid (valueB_at (s := s) (i := i) (by have := HNN.out; have := HD.out; omega) (by rw [← HC.out]; exact decide_eq_false (by omega)))
        clear hc
        go_wp2
        all_goals
          go_ret
          exact ⟨by rw [HR.out]; rfl, rfl⟩
      · have HR := Lib.hid (valueB_at (s := s) (i := i) (by have := HNN.out; have := HD.out; omega) (by rw [← HC.out]; rfl))
        go_wp2
        all_goals
          go_ret
          exact ⟨by rw [HR.out]; rfl, rfl⟩
      · have HR := Lib.hid (valueB_at (s := s) (i := i) (by have := HNN.out; have := HD.out; omega) (by rw [← HC.out]; rfl))
        go_wp2
        all_goals
          go_ret
          exact ⟨by rw [HR.out]; rfl, rfl⟩
      · have HR := Lib.hid (valueB_at (s := s) (i := i) (by have := HNN.out; have := HD.out; omega) (by rw [← HC.out]; rfl))
        go_wp2
        all_goals
          go_ret
          exact ⟨by rw [HR.out]; rfl, rfl⟩
      · have g7 : ¬ (c : Int) < 33 := by omega
        have g8 : decide (c < 33) = false := decide_eq_false (by omega)
        have g9 : ¬ (126 : Int) < (c : Int) := by omega
        have g10 : decide (126 < c) = false := decide_eq_false (by omega)
        have g11 : ((c : Int) == 61) = false := beqF (by omega)
        have g12 : (c == 61) = false := by simp; omega
        have g13 : ((c : Int) == 59) = false := beqF (by omega)
        have g14 : (c == 59) = false := by simp; omega
        have g15 : ((c : Int) == 44) = false := beqF (by omega)
        have g16 : (c == 44) = false := by simp; omega
        have HOK := Lib.hid (show okV (chr s i) = true from by rw [← HC.out]; exact decide_eq_true (by omega))
        clear hc
        go_wp2
        go_roundg (n - (i + 1))
        case measure => have := HD.out; omega
        case rel => exact ⟨i + 1, HD.out, rfl, rfl, rfl, all_succ HA.out HOK.out⟩
    · obtain rfl : n = i := by omega
      have HR := Lib.hid (valueB_yes (s := s) HN.out (by rw [← HNN.out]; exact HA.out))
      clear hd
      go_wp2
      go_ret
      exact ⟨by rw [HR.out]; rfl, rfl⟩

set_option maxHeartbeats 4000000 in
theorem refValue_any (s : ByteArray) (w : World) (hs : s.size ≤ 9223372036854775807) :
    Calls Tryd.prog 30 #[.string s] w fun e w' => e = .returned (.bool (valueB s)) ∧ w = w' := by
  have hS : ∀ i, i < s.size → ∀ w, (Instr.index 9 (.string s) (.int .i64 (i : Int))).run Tryd.prog w = .ok (.int .u8 (chr s i : Int)) w := fun i hi w => run_chr Tryd.underlying9 s i hi w
  obtain ⟨n, hn⟩ : ∃ n, n = s.size := ⟨_, rfl⟩
  by_cases h0 : s.size = 0
  · have HR := Lib.hid (valueB_no (s := s) (by omega))
    have q : (s.size : Int) < 1 := by omega
    have q' : decide (s.size < 1) = true := decide_eq_true (by omega)
    clear hS h0 hn
    go_enter Tryd.func30, Tryd.ntmps30
    go_wp2
    go_ret
    exact ⟨by rw [HR.out]; rfl, rfl⟩
  have q : ¬ (s.size : Int) < 1 := by omega
  have q' : decide (s.size < 1) = false := decide_eq_false (by omega)
  by_cases h1 : 32 < s.size
  · have HR := Lib.hid (valueB_no (s := s) (by omega))
    have q1 : (32 : Int) < (s.size : Int) := by omega
    have q2 : decide (32 < s.size) = true := decide_eq_true h1
    clear hS h0 hn
    go_enter Tryd.func30, Tryd.ntmps30
    go_wp2
    go_ret
    exact ⟨by rw [HR.out]; rfl, rfl⟩
  have q1 : ¬ (32 : Int) < (s.size : Int) := by omega
  have q2 : decide (32 < s.size) = false := decide_eq_false h1
  have HS := Lib.hid hS
  have HN := Lib.hid (show 1 ≤ s.size ∧ s.size ≤ 32 from ⟨by omega, by omega⟩)
  have HNN := Lib.hid hn
  clear hS h0 h1
  go_enter Tryd.func30, Tryd.ntmps30
  go_upto_region 4 with fail
  clear hs q q' q1 q2 hn
  go_loopg [3] n (fun g s3 wr => ∃ i : Nat, i ≤ n ∧ g = n - i ∧ s3 = .int .i64 i ∧ w = wr ∧ ∀ j, j < i → okV (chr s j) = true)
  case atStart => exact ⟨0, Nat.zero_le _, rfl, rfl, rfl, fun j hj => by omega⟩
  case round =>
    obtain ⟨i, hin, rfl, rfl, rfl, ha⟩ := hrel
    have HA := Lib.hid ha
    clear ha
    by_cases hd : i < n
    · have hdi : (i : Int) < (n : Int) := by omega
      have hdi2 : (i : Int) < (s.size : Int) := by have := HNN.out; omega
      have HD := Lib.hid hd
      have wi : IntKind.i64.wrap ((i : Int) + 1) = ((i + 1 : Nat) : Int) := by rw [IntWalk.i64_in _ ⟨by omega, by have := HN.out; have := HNN.out; omega⟩]; omega
      have hix := HS.out i (by have := HNN.out; omega)
      have hlt := chr_lt s i
      obtain ⟨c, hc⟩ : ∃ c, c = chr s i := ⟨_, rfl⟩
      rw [← hc] at hix hlt
      have HC := Lib.hid hc
      clear hd hin hc
      have hcase : c ≤ 32 ∨ 126 < c ∨ c = 61 ∨ c = 59 ∨ c = 44 ∨ (33 ≤ c ∧ c ≤ 126 ∧ c ≠ 61 ∧ c ≠ 59 ∧ c ≠ 44) := by omega
      rcases hcase with hc | hc | rfl | rfl | rfl | hc
      · have g17 : (c : Int) ≤ 32 := by omega
        have g18 : decide (c ≤ 32) = true := decide_eq_true (by omega)
        have HR := Lib.hid (valueB_at (s := s) (i := i) (by have := HNN.out; have := HD.out; omega) (by rw [← HC.out]; exact decide_eq_false (by omega)))
        clear hc
        go_wp2
        all_goals
          go_ret
          exact ⟨by rw [HR.out]; rfl, rfl⟩
      · have g19 : ¬ (c : Int) ≤ 32 := by omega
        have g20 : decide (c ≤ 32) = false := decide_eq_false (by omega)
        have g21 : (127 : Int) ≤ (c : Int) := by omega
        have g22 : decide (127 ≤ c) = true := decide_eq_true (by omega)
        have HR := Lib.hid (valueB_at (s := s) (i := i) (by have := HNN.out; have := HD.out; omega) (by rw [← HC.out]; exact decide_eq_false (by omega)))
        clear hc
        go_wp2
        all_goals
          go_ret
          exact ⟨by rw [HR.out]; rfl, rfl⟩
      · have HR := Lib.hid (valueB_at (s := s) (i := i) (by have := HNN.out; have := HD.out; omega) (by rw [← HC.out]; rfl))
        go_wp2
        all_goals
          go_ret
          exact ⟨by rw [HR.out]; rfl, rfl⟩
      · have HR := Lib.hid (valueB_at (s := s) (i := i) (by have := HNN.out; have := HD.out; omega) (by rw [← HC.out]; rfl))
        go_wp2
        all_goals
          go_ret
          exact ⟨by rw [HR.out]; rfl, rfl⟩
      · have HR := Lib.hid (valueB_at (s := s) (i := i) (by have := HNN.out; have := HD.out; omega) (by rw [← HC.out]; rfl))
        go_wp2
        all_goals
          go_ret
          exact ⟨by rw [HR.out]; rfl, rfl⟩
      · have g23 : ¬ (c : Int) ≤ 32 := by omega
        have g24 : decide (c ≤ 32) = false := decide_eq_false (by omega)
        have g25 : ¬ (127 : Int) ≤ (c : Int) := by omega
        have g26 : decide (127 ≤ c) = false := decide_eq_false (by omega)
        have g27 : ((c : Int) == 61) = false := beqF (by omega)
        have g28 : (c == 61) = false := by simp; omega
        have g29 : ((c : Int) == 59) = false := beqF (by omega)
        have g30 : (c == 59) = false := by simp; omega
        have g31 : ((c : Int) == 44) = false := beqF (by omega)
        have g32 : (c == 44) = false := by simp; omega
        have HOK := Lib.hid (show okV (chr s i) = true from by rw [← HC.out]; exact decide_eq_true (by omega))
        clear hc
        go_wp2
        go_roundg (n - (i + 1))
        case measure => have := HD.out; omega
        case rel => exact ⟨i + 1, HD.out, rfl, rfl, rfl, all_succ HA.out HOK.out⟩
    · obtain rfl : n = i := by omega
      have HR := Lib.hid (valueB_yes (s := s) HN.out (by rw [← HNN.out]; exact HA.out))
      have hdi : ¬ (n : Int) < (s.size : Int) := by have := HNN.out; omega
      have hdi2 : decide (n < s.size) = false := decide_eq_false (by have := HNN.out; omega)
      clear hd
      go_wp2
      go_ret
      exact ⟨by rw [HR.out]; rfl, rfl⟩

set_option maxHeartbeats 4000000 in
theorem refName_any (s : ByteArray) (w : World) (hs : s.size ≤ 9223372036854775807) :
    Calls Tryd.prog 29 #[.string s] w fun e w' => e = .returned (.bool (nameB s)) ∧ w = w' := by
  have hS : ∀ i, i < s.size → ∀ w, (Instr.index 9 (.string s) (.int .i64 (i : Int))).run Tryd.prog w = .ok (.int .u8 (chr s i : Int)) w := fun i hi w => run_chr Tryd.underlying9 s i hi w
  obtain ⟨n, hn⟩ : ∃ n, n = s.size := ⟨_, rfl⟩
  by_cases h0 : s.size = 0
  · have HR := Lib.hid (nameB_no (s := s) (by omega))
    have q : (s.size : Int) < 1 := by omega
    have q' : decide (s.size < 1) = true := decide_eq_true (by omega)
    clear hS h0 hn
    go_enter Tryd.func29, Tryd.ntmps29
    go_wp2
    go_ret
    exact ⟨by rw [HR.out]; rfl, rfl⟩
  have q : ¬ (s.size : Int) < 1 := by omega
  have q' : decide (s.size < 1) = false := decide_eq_false (by omega)
  by_cases h1 : 32 < s.size
  · have HR := Lib.hid (nameB_no (s := s) (by omega))
    have q1 : (32 : Int) < (s.size : Int) := by omega
    have q2 : decide (32 < s.size) = true := decide_eq_true h1
    clear hS h0 hn
    go_enter Tryd.func29, Tryd.ntmps29
    go_wp2
    go_ret
    exact ⟨by rw [HR.out]; rfl, rfl⟩
  have q1 : ¬ (32 : Int) < (s.size : Int) := by omega
  have q2 : decide (32 < s.size) = false := decide_eq_false h1
  have HS := Lib.hid hS
  have HN := Lib.hid (show 1 ≤ s.size ∧ s.size ≤ 32 from ⟨by omega, by omega⟩)
  have HNN := Lib.hid hn
  clear hS h0 h1
  go_enter Tryd.func29, Tryd.ntmps29
  go_upto_region 4 with fail
  clear hs q q' q1 q2 hn
  go_loopg [3] n (fun g s3 wr => ∃ i : Nat, i ≤ n ∧ g = n - i ∧ s3 = .int .i64 i ∧ w = wr ∧ (∀ j, j < i → letterB (chr s j) = true ∨ otherB (chr s j) = true) ∧ (0 < i → letterB (chr s 0) = true))
  case atStart => exact ⟨0, Nat.zero_le _, rfl, rfl, rfl, fun j hj => by omega, fun h => by omega⟩
  case round =>
    obtain ⟨i, hin, rfl, rfl, rfl, ha⟩ := hrel
    have HA := Lib.hid ha
    clear ha
    by_cases hd : i < n
    · have hdi : (i : Int) < (n : Int) := by omega
      have hdi2 : (i : Int) < (s.size : Int) := by have := HNN.out; omega
      have HD := Lib.hid hd
      have wi : IntKind.i64.wrap ((i : Int) + 1) = ((i + 1 : Nat) : Int) := by rw [IntWalk.i64_in _ ⟨by omega, by have := HN.out; have := HNN.out; omega⟩]; omega
      have hix := HS.out i (by have := HNN.out; omega)
      have hlt := chr_lt s i
      obtain ⟨c, hc⟩ : ∃ c, c = chr s i := ⟨_, rfl⟩
      rw [← hc] at hix hlt
      have HC := Lib.hid hc
      clear hd hin hc
      have hcase : (97 ≤ c ∧ c ≤ 122) ∨ (48 ≤ c ∧ c ≤ 57) ∨ c = 95 ∨ c = 46 ∨ (c < 48 ∧ c ≠ 46) ∨ (57 < c ∧ c < 97 ∧ c ≠ 95) ∨ 122 < c := by omega
      rcases hcase with hc | hc | rfl | rfl | hc | hc | hc
      · have g33 : (97 : Int) ≤ (c : Int) := by omega
        have g34 : decide (97 ≤ c) = true := decide_eq_true (by omega)
        have g35 : (c : Int) ≤ 122 := by omega
        have g36 : decide (c ≤ 122) = true := decide_eq_true (by omega)
        have g37 : (48 : Int) ≤ (c : Int) := by omega
        have g38 : decide (48 ≤ c) = true := decide_eq_true (by omega)
        have g39 : ¬ (c : Int) ≤ 57 := by omega
        have g40 : decide (c ≤ 57) = false := decide_eq_false (by omega)
        have g41 : ((c : Int) == 95) = false := beqF (by omega)
        have g42 : (c == 95) = false := by simp; omega
        have g43 : ((c : Int) == 46) = false := beqF (by omega)
        have g44 : (c == 46) = false := by simp; omega
        have hlb : letterB (chr s i) = true := by rw [← HC.out]; exact decide_eq_true (by omega)
        have HOK := Lib.hid hlb
        clear hc hlb
        go_wp2
        go_roundg (n - (i + 1))
        case measure => have := HD.out; omega
        case rel => exact ⟨i + 1, HD.out, rfl, rfl, rfl, all_succ HA.out.1 (.inl HOK.out), fun _ => by rcases Nat.eq_zero_or_pos i with h | h; (have := HOK.out; rw [h] at this; exact this); exact HA.out.2 h⟩
      · have g45 : ¬ (97 : Int) ≤ (c : Int) := by omega
        have g46 : decide (97 ≤ c) = false := decide_eq_false (by omega)
        have g47 : (48 : Int) ≤ (c : Int) := by omega
        have g48 : decide (48 ≤ c) = true := decide_eq_true (by omega)
        have g49 : (c : Int) ≤ 57 := by omega
        have g50 : decide (c ≤ 57) = true := decide_eq_true (by omega)
        have LQ : letterB c = false := decide_eq_false (by omega)
        have OQ : otherB c = true := decide_eq_true (by omega)
        clear hc
        by_cases hi0 : i = 0
        · have HR := Lib.hid (nameB_no (s := s) (fun e => by have h := e.2; rw [← hi0, ← HC.out] at h; exact absurd h (by rw [LQ]; decide)))
          have z1 : ((i : Int) == 0) = true := beqT (by omega)
          have z2 : (i == 0) = true := by simp [hi0]
          clear hi0 LQ
          go_wp2
          go_ret
          exact ⟨by rw [HR.out]; rfl, rfl⟩
        · have HOK := Lib.hid (show letterB (chr s i) = true ∨ otherB (chr s i) = true from .inr (by rw [← HC.out]; exact OQ))
          have z1 : ((i : Int) == 0) = false := beqF (by omega)
          have z2 : (i == 0) = false := by simp [hi0]
          have HI0 := Lib.hid hi0
          clear hi0 LQ OQ
          go_wp2
          go_roundg (n - (i + 1))
          case measure => have := HD.out; omega
          case rel => exact ⟨i + 1, HD.out, rfl, rfl, rfl, all_succ HA.out.1 HOK.out, fun _ => HA.out.2 (by have := HI0.out; omega)⟩
      · have LQ : letterB 95 = false := rfl
        have OQ : otherB 95 = true := rfl
        by_cases hi0 : i = 0
        · have HR := Lib.hid (nameB_no (s := s) (fun e => by have h := e.2; rw [← hi0, ← HC.out] at h; exact absurd h (by rw [LQ]; decide)))
          have z1 : ((i : Int) == 0) = true := beqT (by omega)
          have z2 : (i == 0) = true := by simp [hi0]
          clear hi0 LQ
          go_wp2
          go_ret
          exact ⟨by rw [HR.out]; rfl, rfl⟩
        · have HOK := Lib.hid (show letterB (chr s i) = true ∨ otherB (chr s i) = true from .inr (by rw [← HC.out]; exact OQ))
          have z1 : ((i : Int) == 0) = false := beqF (by omega)
          have z2 : (i == 0) = false := by simp [hi0]
          have HI0 := Lib.hid hi0
          clear hi0 LQ OQ
          go_wp2
          go_roundg (n - (i + 1))
          case measure => have := HD.out; omega
          case rel => exact ⟨i + 1, HD.out, rfl, rfl, rfl, all_succ HA.out.1 HOK.out, fun _ => HA.out.2 (by have := HI0.out; omega)⟩
      · have LQ : letterB 46 = false := rfl
        have OQ : otherB 46 = true := rfl
        by_cases hi0 : i = 0
        · have HR := Lib.hid (nameB_no (s := s) (fun e => by have h := e.2; rw [← hi0, ← HC.out] at h; exact absurd h (by rw [LQ]; decide)))
          have z1 : ((i : Int) == 0) = true := beqT (by omega)
          have z2 : (i == 0) = true := by simp [hi0]
          clear hi0 LQ
          go_wp2
          go_ret
          exact ⟨by rw [HR.out]; rfl, rfl⟩
        · have HOK := Lib.hid (show letterB (chr s i) = true ∨ otherB (chr s i) = true from .inr (by rw [← HC.out]; exact OQ))
          have z1 : ((i : Int) == 0) = false := beqF (by omega)
          have z2 : (i == 0) = false := by simp [hi0]
          have HI0 := Lib.hid hi0
          clear hi0 LQ OQ
          go_wp2
          go_roundg (n - (i + 1))
          case measure => have := HD.out; omega
          case rel => exact ⟨i + 1, HD.out, rfl, rfl, rfl, all_succ HA.out.1 HOK.out, fun _ => HA.out.2 (by have := HI0.out; omega)⟩
      · have g51 : ¬ (97 : Int) ≤ (c : Int) := by omega
        have g52 : decide (97 ≤ c) = false := decide_eq_false (by omega)
        have g53 : ¬ (48 : Int) ≤ (c : Int) := by omega
        have g54 : decide (48 ≤ c) = false := decide_eq_false (by omega)
        have g55 : ((c : Int) == 95) = false := beqF (by omega)
        have g56 : (c == 95) = false := by simp; omega
        have g57 : ((c : Int) == 46) = false := beqF (by omega)
        have g58 : (c == 46) = false := by simp; omega
        have HR := Lib.hid (nameB_at (s := s) (i := i) (by have := HNN.out; have := HD.out; omega) (by rw [← HC.out]; exact decide_eq_false (by omega)) (by rw [← HC.out]; exact decide_eq_false (by omega)))
        clear hc
        go_wp2
        all_goals
          go_ret
          exact ⟨by rw [HR.out]; rfl, rfl⟩
      · have g59 : ¬ (97 : Int) ≤ (c : Int) := by omega
        have g60 : decide (97 ≤ c) = false := decide_eq_false (by omega)
        have g61 : (48 : Int) ≤ (c : Int) := by omega
        have g62 : decide (48 ≤ c) = true := decide_eq_true (by omega)
        have g63 : ¬ (c : Int) ≤ 57 := by omega
        have g64 : decide (c ≤ 57) = false := decide_eq_false (by omega)
        have g65 : ((c : Int) == 95) = false := beqF (by omega)
        have g66 : (c == 95) = false := by simp; omega
        have g67 : ((c : Int) == 46) = false := beqF (by omega)
        have g68 : (c == 46) = false := by simp; omega
        have HR := Lib.hid (nameB_at (s := s) (i := i) (by have := HNN.out; have := HD.out; omega) (by rw [← HC.out]; exact decide_eq_false (by omega)) (by rw [← HC.out]; exact decide_eq_false (by omega)))
        clear hc
        go_wp2
        all_goals
          go_ret
          exact ⟨by rw [HR.out]; rfl, rfl⟩
      · have g69 : (97 : Int) ≤ (c : Int) := by omega
        have g70 : decide (97 ≤ c) = true := decide_eq_true (by omega)
        have g71 : ¬ (c : Int) ≤ 122 := by omega
        have g72 : decide (c ≤ 122) = false := decide_eq_false (by omega)
        have g73 : (48 : Int) ≤ (c : Int) := by omega
        have g74 : decide (48 ≤ c) = true := decide_eq_true (by omega)
        have g75 : ¬ (c : Int) ≤ 57 := by omega
        have g76 : decide (c ≤ 57) = false := decide_eq_false (by omega)
        have g77 : ((c : Int) == 95) = false := beqF (by omega)
        have g78 : (c == 95) = false := by simp; omega
        have g79 : ((c : Int) == 46) = false := beqF (by omega)
        have g80 : (c == 46) = false := by simp; omega
        have HR := Lib.hid (nameB_at (s := s) (i := i) (by have := HNN.out; have := HD.out; omega) (by rw [← HC.out]; exact decide_eq_false (by omega)) (by rw [← HC.out]; exact decide_eq_false (by omega)))
        clear hc
        go_wp2
        all_goals
          go_ret
          exact ⟨by rw [HR.out]; rfl, rfl⟩
    · obtain rfl : n = i := by omega
      have HR := Lib.hid (nameB_yes (s := s) ⟨HN.out, HA.out.2 (by have := HN.out; have := HNN.out; omega)⟩ (by rw [← HNN.out]; exact HA.out.1))
      have hdi : ¬ (n : Int) < (s.size : Int) := by have := HNN.out; omega
      have hdi2 : decide (n < s.size) = false := decide_eq_false (by have := HNN.out; omega)
      clear hd
      go_wp2
      go_ret
      exact ⟨by rw [HR.out]; rfl, rfl⟩
end Go.Proofs.YtkgjkcfjkjkflaaDoor
