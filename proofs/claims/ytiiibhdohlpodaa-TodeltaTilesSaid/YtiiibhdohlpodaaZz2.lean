/- Texts put together: what the theorem stands on. -/
import Derived.Test.YtiiibhdohlpodaaZz1
import Derived.Test.YtiiibhdohlpodaaProg
import Derived.OrdersHeld
import Derived.StillTail
import Derived.Deep.RegionHeld3
import Derived.Deep.WholeRow
import Derived.BigRegion
import Derived.Laws.StructEq
import Derived.Lib.Bytealg
import Derived.Lib.Strings
import Derived.BigCall
import Derived.BigGuard
import Derived.Test.YtiiibhdohlpodaaRows
import Derived.Lib.LaidTab
import Derived.LaidMore
import Derived.Lay
import Derived.LaidOnce
import Derived.LaidLaws
import Derived.Stop.Joined
import Derived.Deep.Slices
import Derived.Deep.Fields
import Derived.ChangeSame

namespace Go.Proofs.Ytiiibhdohlpodaa
open Go.RowKit
attribute [local go_sem ↓] Go.wp_at_zero Go.wp_at_succ
def letterB (c : Nat) : Bool := decide (97 ≤ c ∧ c ≤ 122)
def otherB (c : Nat) : Bool := decide ((48 ≤ c ∧ c ≤ 57) ∨ c = 95 ∨ c = 46)
/-- Is that a name, or a key? -/
def nameB (s : ByteArray) : Bool := decide ((1 ≤ s.size ∧ s.size ≤ 32) ∧ letterB (chr s 0) = true ∧ ∀ i, i < s.size → letterB (chr s i) = true ∨ otherB (chr s i) = true)
def okV (c : Nat) : Bool := decide (33 ≤ c ∧ c ≤ 126 ∧ c ≠ 61 ∧ c ≠ 59 ∧ c ≠ 44)
/-- Is that a value? -/
def valueB (s : ByteArray) : Bool := decide ((1 ≤ s.size ∧ s.size ≤ 32) ∧ ∀ i, i < s.size → okV (chr s i) = true)
theorem nameB_no {s : ByteArray} (h : ¬ ((1 ≤ s.size ∧ s.size ≤ 32) ∧ letterB (chr s 0) = true)) : nameB s = false := decide_eq_false (fun e => h ⟨e.1, e.2.1⟩)
theorem nameB_at {s : ByteArray} {i : Nat} (hi : i < s.size) (h1 : letterB (chr s i) = false) (h2 : otherB (chr s i) = false) : nameB s = false := decide_eq_false (fun e => by rcases e.2.2 i hi with h | h; rw [h1] at h; cases h; rw [h2] at h; cases h)
theorem nameB_yes {s : ByteArray} (h : (1 ≤ s.size ∧ s.size ≤ 32) ∧ letterB (chr s 0) = true) (ha : ∀ i, i < s.size → letterB (chr s i) = true ∨ otherB (chr s i) = true) : nameB s = true := decide_eq_true ⟨h.1, h.2, ha⟩
theorem valueB_no {s : ByteArray} (h : ¬ (1 ≤ s.size ∧ s.size ≤ 32)) : valueB s = false := decide_eq_false (fun e => h e.1)
theorem valueB_at {s : ByteArray} {i : Nat} (hi : i < s.size) (h1 : okV (chr s i) = false) : valueB s = false := decide_eq_false (fun e => by have h := e.2 i hi; rw [h1] at h; cases h)
theorem valueB_yes {s : ByteArray} (h : 1 ≤ s.size ∧ s.size ≤ 32) (ha : ∀ i, i < s.size → okV (chr s i) = true) : valueB s = true := decide_eq_true ⟨h, ha⟩
theorem all_succ {p : Nat → Prop} {i : Nat} (h : ∀ j, j < i → p j) (hi : p i) : ∀ j, j < i + 1 → p j := fun j hj => by
  rcases Nat.lt_or_ge j i with h1 | h1
  · exact h j h1
  · obtain rfl : j = i := by omega
    exact hi
theorem lsmall_any (c : Nat) (w : World) :
    Calls Try.prog 88 #[.int .u8 (c : Int)] w fun e w' => e = .returned (.bool (letterB c)) ∧ w = w' := by
  have hcase : (97 ≤ c ∧ c ≤ 122) ∨ ((97 : Int) ≤ c ∧ ¬ (c : Int) ≤ 122) ∨ ¬ (97 : Int) ≤ c := by omega
  rcases hcase with ⟨h1, h2⟩ | ⟨h1, h2⟩ | h1
  · have hd : Hid (letterB c = true) := Lib.hid (decide_eq_true ⟨h1, h2⟩)
    have a1 : (97 : Int) ≤ (c : Int) := by omega
    have a2 : (c : Int) ≤ 122 := by omega
    clear h1 h2
    go_enter Try.func88, Try.ntmps88
    go_wp2
    go_ret
    exact ⟨by rw [hd.out]; rfl, rfl⟩
  · have hd : Hid (letterB c = false) := Lib.hid (decide_eq_false (by omega))
    go_enter Try.func88, Try.ntmps88
    go_wp2
    go_ret
    exact ⟨by rw [hd.out]; rfl, rfl⟩
  · have hd : Hid (letterB c = false) := Lib.hid (decide_eq_false (by omega))
    go_enter Try.func88, Try.ntmps88
    go_wp2
    go_ret
    exact ⟨by rw [hd.out]; rfl, rfl⟩
set_option maxHeartbeats 4000000 in
theorem isName_any (s : ByteArray) (w : World) (hs : s.size ≤ 9223372036854775807) :
    Calls Try.prog 65 #[.string s] w fun e w' => e = .returned (.bool (nameB s)) ∧ w = w' := by
  have hS : ∀ i, i < s.size → ∀ w, (Instr.index 9 (.string s) (.int .i64 (i : Int))).run Try.prog w = .ok (.int .u8 (chr s i : Int)) w := fun i hi w => run_chr Try.underlying9 s i hi w
  by_cases h0 : s.size = 0
  · have HR := Lib.hid (nameB_no (s := s) (by omega))
    have q : ((s.size : Int) == 0) = true := by simp [h0]
    have q' : (s.size == 0) = true := by simp [h0]
    clear hS h0
    go_enter Try.func65, Try.ntmps65
    go_wp2
    go_ret
    exact ⟨by rw [HR.out]; rfl, rfl⟩
  have q : ((s.size : Int) == 0) = false := by simp [h0]
  have q' : (s.size == 0) = false := by simp [h0]
  by_cases h1 : 32 < s.size
  · have HR := Lib.hid (nameB_no (s := s) (by omega))
    have q1 : (32 : Int) < (s.size : Int) := by omega
    have q2 : decide (32 < s.size) = true := decide_eq_true h1
    clear hS h0
    go_enter Try.func65, Try.ntmps65
    go_wp2
    go_ret
    exact ⟨by rw [HR.out]; rfl, rfl⟩
  have q1 : ¬ (32 : Int) < (s.size : Int) := by omega
  have q2 : decide (32 < s.size) = false := decide_eq_false h1
  have hs0 : ∀ w, (Instr.index 9 (.string s) (.int .i64 0)).run Try.prog w = .ok (.int .u8 (chr s 0 : Int)) w := hS 0 (by omega)
  have HS := Lib.hid hS
  have HN := Lib.hid (show 1 ≤ s.size ∧ s.size ≤ 32 from ⟨by omega, by omega⟩)
  have HSM := Lib.hid (lsmall_any (chr s 0))
  cases hl : letterB (chr s 0) with
  | false =>
    have HR := Lib.hid (nameB_no (s := s) (by rw [hl]; exact fun e => by cases e.2))
    rw [hl] at HSM
    obtain ⟨c0, hc0⟩ : ∃ c, c = chr s 0 := ⟨_, rfl⟩
    rw [← hc0] at hs0 HSM
    clear hS h0 h1 hc0 hl
    go_enter Try.func65, Try.ntmps65
    go_wp2_with fail
    refine (HSM.out _).mono ?_
    rintro e w' ⟨rfl, rfl⟩
    go_wp2
    go_ret
    exact ⟨by rw [HR.out]; rfl, rfl⟩
  | true =>
    have HL := Lib.hid hl
    rw [hl] at HSM
    obtain ⟨c0, hc0⟩ : ∃ c, c = chr s 0 := ⟨_, rfl⟩
    rw [← hc0] at hs0 HSM
    clear hS h0 h1 hc0 hl
    go_enter Try.func65, Try.ntmps65
    go_wp2_with fail
    refine (HSM.out _).mono ?_
    rintro e w' ⟨rfl, rfl⟩
    go_wp2
    obtain ⟨n, hn⟩ : ∃ n, n = s.size := ⟨_, rfl⟩
    have HNN := Lib.hid hn
    rw [← hn]
    clear hs0 hs q q' q1 q2 hn
    go_loopg [21] n (fun g s21 wr => ∃ i : Nat, i ≤ n ∧ g = n - i ∧ s21 = .int .i64 i ∧ w = wr ∧ ∀ j, j < i → letterB (chr s j) = true ∨ otherB (chr s j) = true)
    case atStart => exact ⟨0, Nat.zero_le _, rfl, rfl, rfl, fun j hj => by omega⟩
    case round =>
      obtain ⟨i, hin, rfl, rfl, rfl, ha⟩ := hrel
      have HA := Lib.hid ha
      clear ha
      by_cases hd : i < n
      · have hdi : (i : Int) < (n : Int) := by omega
        have HD := Lib.hid hd
        have wi : IntKind.i64.wrap ((i : Int) + 1) = ((i + 1 : Nat) : Int) := by rw [IntWalk.i64_in _ ⟨by omega, by have := HN.out; have := HNN.out; omega⟩]; omega
        have hix := HS.out i (by have := HNN.out; omega)
        have HSI := Lib.hid (lsmall_any (chr s i))
        have hlt := chr_lt s i
        obtain ⟨c, hc⟩ : ∃ c, c = chr s i := ⟨_, rfl⟩
        rw [← hc] at hix HSI hlt
        have HC := Lib.hid hc
        obtain ⟨LB, hLB⟩ : ∃ b, b = letterB c := ⟨_, rfl⟩
        have hLB2 := hLB
        rw [← hLB] at HSI
        clear hd hin hc
        have hcase : LB = true ∨ (LB = false ∧ (48 : Int) ≤ c ∧ (c : Int) ≤ 57) ∨ (LB = false ∧ c < 48 ∧ c = 46) ∨ (LB = false ∧ c < 48 ∧ c ≠ 46) ∨ (LB = false ∧ 57 < c ∧ c = 95) ∨ (LB = false ∧ 57 < c ∧ c ≠ 95) := by
          cases LB <;> simp <;> omega
        rcases hcase with rfl | ⟨rfl, c1, c2⟩ | ⟨rfl, c1, rfl⟩ | ⟨rfl, c1, c2⟩ | ⟨rfl, c1, rfl⟩ | ⟨rfl, c1, c2⟩
        · have HOK := Lib.hid (show letterB (chr s i) = true ∨ otherB (chr s i) = true from .inl (by rw [← HC.out]; exact hLB.symm))
          clear hLB hLB2
          go_wp2_with fail
          refine (HSI.out _).mono ?_
          rintro e w' ⟨rfl, rfl⟩
          go_wp2
          go_roundg (n - (i + 1))
          case measure => have := HD.out; omega
          case rel => exact ⟨i + 1, HD.out, rfl, rfl, rfl, all_succ HA.out HOK.out⟩
        · have HOK := Lib.hid (show letterB (chr s i) = true ∨ otherB (chr s i) = true from .inr (by rw [← HC.out]; exact decide_eq_true (by omega)))
          have g1 : ¬ (c : Int) < 48 := by omega
          have g2 : ¬ (57 : Int) < (c : Int) := by omega
          have g3 : decide (c < 48) = false := decide_eq_false (by omega)
          have g4 : decide (57 < c) = false := decide_eq_false (by omega)
          clear hLB hLB2 c1 c2
          go_wp2_with fail
          refine (HSI.out _).mono ?_
          rintro e w' ⟨rfl, rfl⟩
          go_wp2
          go_roundg (n - (i + 1))
          case measure => have := HD.out; omega
          case rel => exact ⟨i + 1, HD.out, rfl, rfl, rfl, all_succ HA.out HOK.out⟩
        · have HOK := Lib.hid (show letterB (chr s i) = true ∨ otherB (chr s i) = true from .inr (by rw [← HC.out]; rfl))
          clear hLB hLB2 c1
          go_wp2_with fail
          refine (HSI.out _).mono ?_
          rintro e w' ⟨rfl, rfl⟩
          go_wp2
          go_roundg (n - (i + 1))
          case measure => have := HD.out; omega
          case rel => exact ⟨i + 1, HD.out, rfl, rfl, rfl, all_succ HA.out HOK.out⟩
        · have HR := Lib.hid (nameB_at (s := s) (i := i) (by have := HNN.out; have := HD.out; omega) (by rw [← HC.out]; exact hLB.symm) (by rw [← HC.out]; exact decide_eq_false (by omega)))
          have g1 : (c : Int) < 48 := by omega
          have g3 : decide (c < 48) = true := decide_eq_true (by omega)
          have g5 : ((c : Int) != 95) = true := bneT (by omega)
          have g6 : ((c : Int) != 46) = true := bneT (by omega)
          have g7 : (c != 95) = true := by simp; omega
          have g8 : (c != 46) = true := by simp; omega
          clear hLB hLB2 c1 c2
          go_wp2_with fail
          refine (HSI.out _).mono ?_
          rintro e w' ⟨rfl, rfl⟩
          go_wp2
          go_ret
          exact ⟨by rw [HR.out]; rfl, rfl⟩
        · have HOK := Lib.hid (show letterB (chr s i) = true ∨ otherB (chr s i) = true from .inr (by rw [← HC.out]; rfl))
          clear hLB hLB2 c1
          go_wp2_with fail
          refine (HSI.out _).mono ?_
          rintro e w' ⟨rfl, rfl⟩
          go_wp2
          go_roundg (n - (i + 1))
          case measure => have := HD.out; omega
          case rel => exact ⟨i + 1, HD.out, rfl, rfl, rfl, all_succ HA.out HOK.out⟩
        · have HR := Lib.hid (nameB_at (s := s) (i := i) (by have := HNN.out; have := HD.out; omega) (by rw [← HC.out]; exact hLB.symm) (by rw [← HC.out]; exact decide_eq_false (by omega)))
          have g1 : ¬ (c : Int) < 48 := by omega
          have g3 : decide (c < 48) = false := decide_eq_false (by omega)
          have g2 : (57 : Int) < (c : Int) := by omega
          have g4 : decide (57 < c) = true := decide_eq_true (by omega)
          have g5 : ((c : Int) != 95) = true := bneT (by omega)
          have g6 : ((c : Int) != 46) = true := bneT (by omega)
          have g7 : (c != 95) = true := by simp; omega
          have g8 : (c != 46) = true := by simp; omega
          clear hLB hLB2 c1 c2
          go_wp2_with fail
          refine (HSI.out _).mono ?_
          rintro e w' ⟨rfl, rfl⟩
          go_wp2
          go_ret
          exact ⟨by rw [HR.out]; rfl, rfl⟩
      · obtain rfl : n = i := by omega
        have HR := Lib.hid (nameB_yes (s := s) ⟨HN.out, HL.out⟩ (by rw [← HNN.out]; exact HA.out))
        clear hd
        go_wp2
        go_ret
        exact ⟨by rw [HR.out]; rfl, rfl⟩
end Go.Proofs.Ytiiibhdohlpodaa
namespace Go.Proofs.Ytiiibhdohlpodaa
open Go.RowKit
attribute [local go_sem ↓] Go.wp_at_zero Go.wp_at_succ
set_option maxHeartbeats 4000000 in
theorem isValue_any (s : ByteArray) (w : World) (hs : s.size ≤ 9223372036854775807) :
    Calls Try.prog 66 #[.string s] w fun e w' => e = .returned (.bool (valueB s)) ∧ w = w' := by
  have hS : ∀ i, i < s.size → ∀ w, (Instr.index 9 (.string s) (.int .i64 (i : Int))).run Try.prog w = .ok (.int .u8 (chr s i : Int)) w := fun i hi w => run_chr Try.underlying9 s i hi w
  obtain ⟨n, hn⟩ : ∃ n, n = s.size := ⟨_, rfl⟩
  by_cases h0 : s.size = 0
  · have HR := Lib.hid (valueB_no (s := s) (by omega))
    have q : ((s.size : Int) == 0) = true := by simp [h0]
    have q' : (s.size == 0) = true := by simp [h0]
    clear hS h0 hn
    go_enter Try.func66, Try.ntmps66
    go_wp2
    go_ret
    exact ⟨by rw [HR.out]; rfl, rfl⟩
  have q : ((s.size : Int) == 0) = false := by simp [h0]
  have q' : (s.size == 0) = false := by simp [h0]
  by_cases h1 : 32 < s.size
  · have HR := Lib.hid (valueB_no (s := s) (by omega))
    have q1 : (32 : Int) < (s.size : Int) := by omega
    have q2 : decide (32 < s.size) = true := decide_eq_true h1
    clear hS h0 hn
    go_enter Try.func66, Try.ntmps66
    go_wp2
    go_ret
    exact ⟨by rw [HR.out]; rfl, rfl⟩
  have q1 : ¬ (32 : Int) < (s.size : Int) := by omega
  have q2 : decide (32 < s.size) = false := decide_eq_false h1
  have HS := Lib.hid hS
  have HN := Lib.hid (show 1 ≤ s.size ∧ s.size ≤ 32 from ⟨by omega, by omega⟩)
  have HNN := Lib.hid hn
  clear hS h0 h1
  go_enter Try.func66, Try.ntmps66
  go_wp2
  rw [← hn]
  clear hs q q' q1 q2 hn
  go_loopg [15] n (fun g s15 wr => ∃ i : Nat, i ≤ n ∧ g = n - i ∧ s15 = .int .i64 i ∧ w = wr ∧ ∀ j, j < i → okV (chr s j) = true)
  case atStart => exact ⟨0, Nat.zero_le _, rfl, rfl, rfl, fun j hj => by omega⟩
  case round =>
    obtain ⟨i, hin, rfl, rfl, rfl, ha⟩ := hrel
    have HA := Lib.hid ha
    clear ha
    by_cases hd : i < n
    · have hdi : (i : Int) < (n : Int) := by omega
      have HD := Lib.hid hd
      have wi : IntKind.i64.wrap ((i : Int) + 1) = ((i + 1 : Nat) : Int) := by rw [IntWalk.i64_in _ ⟨by omega, by have := HN.out; have := HNN.out; omega⟩]; omega
      have hix := HS.out i (by have := HNN.out; omega)
      have hlt := chr_lt s i
      obtain ⟨c, hc⟩ : ∃ c, c = chr s i := ⟨_, rfl⟩
      rw [← hc] at hix hlt
      have HC := Lib.hid hc
      clear hd hin hc
      have hcase : c ≤ 32 ∨ 126 < c ∨ c = 61 ∨ c = 59 ∨ c = 44 ∨ (33 ≤ c ∧ c ≤ 126 ∧ c ≠ 61 ∧ c ≠ 59 ∧ c ≠ 44) := by omega
      rcases hcase with hc | hc | rfl | rfl | rfl | hc
      · have g1 : (c : Int) < 33 := by omega
        have g2 : decide (c < 33) = true := decide_eq_true (by omega)
        have HR := Lib.hid (valueB_at (s := s) (i := i) (by have := HNN.out; have := HD.out; omega) (by rw [← HC.out]; exact decide_eq_false (by omega)))
        clear hc
        go_wp2
        all_goals
          go_ret
          exact ⟨by rw [HR.out]; rfl, rfl⟩
      · have g3 : ¬ (c : Int) < 33 := by omega
        have g4 : decide (c < 33) = false := decide_eq_false (by omega)
        have g5 : (126 : Int) < (c : Int) := by omega
        have g6 : decide (126 < c) = true := decide_eq_true (by omega)
        have HR := Lib.hid (valueB_at (s := s) (i := i) (by have := HNN.out; have := HD.out; omega) (by rw [← HC.out]; exact decide_eq_false (by omega)))
        clear hc
        go_wp2
        all_goals
          go_ret
          exact ⟨by rw [HR.out]; rfl, rfl⟩
      · have HR := Lib.hid (valueB_at (s := s) (i := i) (by have := HNN.out; have := HD.out; omega) (by rw [← HC.out]; rfl))
        go_wp2
        all_goals
          go_ret
          exact ⟨by rw [HR.out]; rfl, rfl⟩
      · have HR := Lib.hid (valueB_at (s := s) (i := i) (by have := HNN.out; have := HD.out; omega) (by rw [← HC.out]; rfl))
        go_wp2
        all_goals
          go_ret
          exact ⟨by rw [HR.out]; rfl, rfl⟩
      · have HR := Lib.hid (valueB_at (s := s) (i := i) (by have := HNN.out; have := HD.out; omega) (by rw [← HC.out]; rfl))
        go_wp2
        all_goals
          go_ret
          exact ⟨by rw [HR.out]; rfl, rfl⟩
      · have g7 : ¬ (c : Int) < 33 := by omega
        have g8 : decide (c < 33) = false := decide_eq_false (by omega)
        have g9 : ¬ (126 : Int) < (c : Int) := by omega
        have g10 : decide (126 < c) = false := decide_eq_false (by omega)
        have g11 : ((c : Int) == 61) = false := beqF (by omega)
        have g12 : (c == 61) = false := by simp; omega
        have g13 : ((c : Int) == 59) = false := beqF (by omega)
        have g14 : (c == 59) = false := by simp; omega
        have g15 : ((c : Int) == 44) = false := beqF (by omega)
        have g16 : (c == 44) = false := by simp; omega
        have HOK := Lib.hid (show okV (chr s i) = true from by rw [← HC.out]; exact decide_eq_true (by omega))
        clear hc
        go_wp2
        go_roundg (n - (i + 1))
        case measure => have := HD.out; omega
        case rel => exact ⟨i + 1, HD.out, rfl, rfl, rfl, all_succ HA.out HOK.out⟩
    · obtain rfl : n = i := by omega
      have HR := Lib.hid (valueB_yes (s := s) HN.out (by rw [← HNN.out]; exact HA.out))
      clear hd
      go_wp2
      go_ret
      exact ⟨by rw [HR.out]; rfl, rfl⟩
end Go.Proofs.Ytiiibhdohlpodaa
namespace Go.Proofs.Ytiiibhdohlpodaa
open Go
section
variable {P : Program} {ops : Array Oper} {Q : Exit → Act → World → Prop} {md : Region.Mode} {S : World → Prop} {k : Nat}
/-- In whatever order the rest comes; S holds behind each but number k. -/
def AnyBut (P : Program) (md : Region.Mode) (ops : Array Oper) (Q : Exit → Act → World → Prop) (S : World → Prop) (k : Nat) : Nat → Array Bool → Act → World → Prop
  | 0, listed, a, w => Region.ready md ops listed = [] ∧ Q .normal a w
  | n + 1, listed, a, w =>
    (Region.ready md ops listed = [] → Q .normal a w) ∧
    ∀ i ∈ Region.ready md ops listed, wpOp P ops Q i (fun a' w' => (i ≠ k → S w') ∧ AnyBut P md ops Q S k n (listed.setIfInBounds i true) a' w') a w
theorem AnyBut.any : ∀ (n : Nat) (listed : Array Bool) (a : Act) (w : World), AnyBut P md ops Q S k n listed a w → wpAny P md ops Q n listed a w
  | 0, _, _, _, h => h
  | n + 1, _, _, _, h => ⟨h.1, fun i hi => wpOp_mono (fun _ _ x => AnyBut.any n _ _ _ x.2) (h.2 i hi)⟩
theorem listed_of_wait {i : Nat} {listed : Array Bool} (hk : Region.waitsFor md ops k i = true) (hr : k ∈ Region.ready md ops listed) : i ∉ Region.ready md ops listed := by
  intro hi
  obtain ⟨ok, hok, e, he, hb, rfl⟩ := Region.waitsFor_spec hk
  obtain ⟨_, ok', hok', hall⟩ := mem_ready.1 hr
  rw [hok] at hok'
  injection hok' with hok'
  subst hok'
  have h1 := hall e he hb
  have h0 := (mem_ready.1 hi).1
  by_cases hs : e.on < listed.size
  · simp [hs] at h0 h1
    rw [h0] at h1; cases h1
  · simp [Array.getElem?_eq_none (Nat.le_of_not_lt hs)] at h1
theorem AnyBut.first {i : Nat} {oi : Oper} {v : Value} (hi : ops[i]? = some oi) (hs : Region.noSelect ops = true) (hk : Region.waitsFor md ops k i = true)
    (hQ : ∀ c a w, Q (.panic c) (a.put oi.dst v) w → Q (.panic c) a w) :
    ∀ (n : Nat) (listed : Array Bool) (a : Act) (w : World), Region.free md ops listed i = true →
      i ∈ Region.ready md ops listed → YieldsIf P ops S oi v a → S w →
      AnyBut P md ops Q S k n (listed.setIfInBounds i true) (a.put oi.dst v) w → AnyBut P md ops Q S k (n + 1) listed a w := by
  intro n listed a w hf
  have hfree := Region.free_spec hi hf
  clear hf
  induction n generalizing listed a w with
  | zero =>
    intro hr hy hS H
    refine ⟨fun h => (by rw [h] at hr; cases hr), fun j hj => ?_⟩
    by_cases hji : j = i
    · subst hji; exact hy.wpOp hi hS ⟨fun _ => hS, H⟩
    · have := ready_mono hj hji
      rw [H.1] at this
      cases this
  | succ n ih =>
    intro hr hy hS H
    refine ⟨fun h => (by rw [h] at hr; cases hr), fun j hj => ?_⟩
    by_cases hji : j = i
    · subst hji; exact hy.wpOp hi hS ⟨fun _ => hS, H⟩
    have hjk : j ≠ k := fun e => by subst e; exact listed_of_wait hk hj hr
    obtain ⟨hjun, oj, hoj, _⟩ := mem_ready.1 hj
    have hnot : ∀ e ∈ oj.after, Region.binds md e = true → e.on ≠ i := fun e he hb heq => by
      have : Region.waitsFor md ops j i = true := by
        unfold Region.waitsFor
        rw [hoj]
        exact Array.any_eq_true'.2 ⟨e, he, by simp [hb, heq]⟩
      exact listed_of_wait this hj hr
    have hstep := wpOp_putIf hoj (hfree j oj hoj hji hjun hnot) (Region.noSelect_spec hs i oi · · hi) (Region.noSelect_spec hs j oj · · hoj) hQ hy (H.2 j (ready_mono hj hji))
    refine wpOp_mono (fun a' w' h3 => ⟨fun _ => h3.2.1 hjk, ih _ a' w' (fun m om hm hmi hun hno => ?_) (ready_mono hr (Ne.symm hji)) h3.1 (h3.2.1 hjk) ?_⟩) hstep
    · refine hfree m om hm hmi ?_ hno
      by_cases hjm : j = m
      · subst hjm; exact hjun
      · rw [getD_set_ne true hjm] at hun; exact hun
    · rw [Array.setIfInBounds_comm _ _ hji]
      exact h3.2.2
theorem AnyBut.take {i : Nat} {oi : Oper} {v : Value} {n : Nat} {listed : Array Bool} {a : Act} {w : World} (hi : ops[i]? = some oi)
    (hs : Region.noSelect ops = true) (hk : Region.waitsFor md ops k i = true) (hf : Region.free md ops listed i = true) (hr : (Region.ready md ops listed).contains i = true)
    (hQ : ∀ c a w, Q (.panic c) (a.put oi.dst v) w → Q (.panic c) a w) (hS : S w) (hy : YieldsIf P ops S oi v a)
    (h : AnyBut P md ops Q S k n (listed.setIfInBounds i true) (a.put oi.dst v) w) : AnyBut P md ops Q S k (n + 1) listed a w :=
  AnyBut.first hi hs hk hQ n listed a w hf (by simpa using hr) hy hS h
/-- The one operation that may come up now, that is not the last one. -/
theorem AnyBut.one {i : Nat} {o : Oper} {n : Nat} {listed : Array Bool} {a : Act} {w : World} (hr : Region.ready md ops listed = [i]) (ho : ops[i]? = some o)
    (h : ∀ K' : Act → World → Prop, Shut (∀ a w, S w → AnyBut P md ops Q S k n (listed.setIfInBounds i true) a w → K' a w) → if Region.wanted o (yielded ops a.tmps) = true then Oper.wp P o a w K' Q else K' (a.put o.dst undef) w) :
    AnyBut P md ops Q S k (n + 1) listed a w :=
  ⟨fun h0 => (by rw [hr] at h0; cases h0), fun j hj => by
    rw [hr] at hj
    obtain rfl := List.mem_singleton.1 hj
    exact wpOp_step ho (fun K' hK => h K' (fun a w hS hW => hK a w ⟨fun _ => hS, hW⟩))⟩
/-- The last one: behind it there is nothing left. -/
theorem AnyBut.last {o : Oper} {n : Nat} {listed : Array Bool} {a : Act} {w : World} (hr : Region.ready md ops listed = [k]) (ho : ops[k]? = some o) (hend : Region.ready md ops (listed.setIfInBounds k true) = [])
    (h : ∀ K' : Act → World → Prop, Shut (∀ a w, Q .normal a w → K' a w) → if Region.wanted o (yielded ops a.tmps) = true then Oper.wp P o a w K' Q else K' (a.put o.dst undef) w) :
    AnyBut P md ops Q S k (n + 1) listed a w :=
  ⟨fun h0 => (by rw [hr] at h0; cases h0), fun j hj => by
    rw [hr] at hj
    obtain rfl := List.mem_singleton.1 hj
    refine wpOp_step ho (fun K' hK => h K' (fun a w hQ => hK a w ⟨fun e => absurd rfl e, ?_⟩))
    cases n with
    | zero => exact ⟨hend, hQ⟩
    | succ n => exact ⟨fun _ => hQ, by rw [hend]; intro i hi; cases hi⟩⟩
/-- The beginning. -/
theorem AnyBut.start {id : Nat} {a : Act} {w : World} (hm : P.follows .mixedOrders = true)
    (h : AnyBut P .any ops Q S k ops.size (Array.replicate ops.size false) a w.drew) : (Code.region id ops true).wp P Q a w :=
  wp_region_any hm (AnyBut.any _ _ _ _ h)
end
end Go.Proofs.Ytiiibhdohlpodaa
namespace Go.Proofs.Ytiiibhdohlpodaa
open Go
section
variable {P : Program} {ops : Array Oper} {Q : Exit → Act → World → Prop} {md : Region.Mode} {S : World → Prop} {k : Nat}
theorem AnyBut.two {i j : Nat} {oi oj : Oper} {n : Nat} {listed : Array Bool} {a : Act} {w : World} (hr : Region.ready md ops listed = [i, j]) (hoi : ops[i]? = some oi) (hoj : ops[j]? = some oj)
    (h1 : ∀ K' : Act → World → Prop, Shut (∀ a w, S w → AnyBut P md ops Q S k n (listed.setIfInBounds i true) a w → K' a w) → if Region.wanted oi (yielded ops a.tmps) = true then Oper.wp P oi a w K' Q else K' (a.put oi.dst undef) w)
    (h2 : ∀ K' : Act → World → Prop, Shut (∀ a w, S w → AnyBut P md ops Q S k n (listed.setIfInBounds j true) a w → K' a w) → if Region.wanted oj (yielded ops a.tmps) = true then Oper.wp P oj a w K' Q else K' (a.put oj.dst undef) w) :
    AnyBut P md ops Q S k (n + 1) listed a w :=
  ⟨fun h0 => (by rw [hr] at h0; cases h0), fun m hm => by
    rw [hr] at hm
    rcases List.mem_cons.1 hm with rfl | hm
    · exact wpOp_step hoi (fun K' hK => h1 K' (fun a w hS hW => hK a w ⟨fun _ => hS, hW⟩))
    · obtain rfl := List.mem_singleton.1 hm
      exact wpOp_step hoj (fun K' hK => h2 K' (fun a w hS hW => hK a w ⟨fun _ => hS, hW⟩))⟩
theorem AnyBut.three {i j m : Nat} {oi oj om : Oper} {n : Nat} {listed : Array Bool} {a : Act} {w : World} (hr : Region.ready md ops listed = [i, j, m]) (hoi : ops[i]? = some oi) (hoj : ops[j]? = some oj) (hom : ops[m]? = some om)
    (h1 : ∀ K' : Act → World → Prop, Shut (∀ a w, S w → AnyBut P md ops Q S k n (listed.setIfInBounds i true) a w → K' a w) → if Region.wanted oi (yielded ops a.tmps) = true then Oper.wp P oi a w K' Q else K' (a.put oi.dst undef) w)
    (h2 : ∀ K' : Act → World → Prop, Shut (∀ a w, S w → AnyBut P md ops Q S k n (listed.setIfInBounds j true) a w → K' a w) → if Region.wanted oj (yielded ops a.tmps) = true then Oper.wp P oj a w K' Q else K' (a.put oj.dst undef) w)
    (h3 : ∀ K' : Act → World → Prop, Shut (∀ a w, S w → AnyBut P md ops Q S k n (listed.setIfInBounds m true) a w → K' a w) → if Region.wanted om (yielded ops a.tmps) = true then Oper.wp P om a w K' Q else K' (a.put om.dst undef) w) :
    AnyBut P md ops Q S k (n + 1) listed a w :=
  ⟨fun h0 => (by rw [hr] at h0; cases h0), fun x hx => by
    rw [hr] at hx
    rcases List.mem_cons.1 hx with rfl | hx
    · exact wpOp_step hoi (fun K' hK => h1 K' (fun a w hS hW => hK a w ⟨fun _ => hS, hW⟩))
    · rcases List.mem_cons.1 hx with rfl | hx
      · exact wpOp_step hoj (fun K' hK => h2 K' (fun a w hS hW => hK a w ⟨fun _ => hS, hW⟩))
      · obtain rfl := List.mem_singleton.1 hx
        exact wpOp_step hom (fun K' hK => h3 K' (fun a w hS hW => hK a w ⟨fun _ => hS, hW⟩))⟩
/-- S holds behind every one (k is none of them). -/
theorem AnyBut.firstS {i : Nat} {oi : Oper} {v : Value} (hi : ops[i]? = some oi) (hs : Region.noSelect ops = true) (hk : ops.size ≤ k)
    (hQ : ∀ c a w, Q (.panic c) (a.put oi.dst v) w → Q (.panic c) a w) :
    ∀ (n : Nat) (listed : Array Bool) (a : Act) (w : World), Region.free md ops listed i = true →
      i ∈ Region.ready md ops listed → YieldsIf P ops S oi v a → S w →
      AnyBut P md ops Q S k n (listed.setIfInBounds i true) (a.put oi.dst v) w → AnyBut P md ops Q S k (n + 1) listed a w := by
  intro n listed a w hf
  have hfree := Region.free_spec hi hf
  clear hf
  induction n generalizing listed a w with
  | zero =>
    intro hr hy hS H
    refine ⟨fun h => (by rw [h] at hr; cases hr), fun j hj => ?_⟩
    by_cases hji : j = i
    · subst hji; exact hy.wpOp hi hS ⟨fun _ => hS, H⟩
    · have := ready_mono hj hji
      rw [H.1] at this
      cases this
  | succ n ih =>
    intro hr hy hS H
    refine ⟨fun h => (by rw [h] at hr; cases hr), fun j hj => ?_⟩
    by_cases hji : j = i
    · subst hji; exact hy.wpOp hi hS ⟨fun _ => hS, H⟩
    obtain ⟨hjun, oj, hoj, _⟩ := mem_ready.1 hj
    have hjk : j ≠ k := fun e => by have := (Array.getElem?_eq_some_iff.1 hoj).1; omega
    have hnot : ∀ e ∈ oj.after, Region.binds md e = true → e.on ≠ i := fun e he hb heq => by
      have : Region.waitsFor md ops j i = true := by
        unfold Region.waitsFor
        rw [hoj]
        exact Array.any_eq_true'.2 ⟨e, he, by simp [hb, heq]⟩
      exact listed_of_wait this hj hr
    have hstep := wpOp_putIf hoj (hfree j oj hoj hji hjun hnot) (Region.noSelect_spec hs i oi · · hi) (Region.noSelect_spec hs j oj · · hoj) hQ hy (H.2 j (ready_mono hj hji))
    refine wpOp_mono (fun a' w' h3 => ⟨fun _ => h3.2.1 hjk, ih _ a' w' (fun m om hm hmi hun hno => ?_) (ready_mono hr (Ne.symm hji)) h3.1 (h3.2.1 hjk) ?_⟩) hstep
    · refine hfree m om hm hmi ?_ hno
      by_cases hjm : j = m
      · subst hjm; exact hjun
      · rw [getD_set_ne true hjm] at hun; exact hun
    · rw [Array.setIfInBounds_comm _ _ hji]
      exact h3.2.2
theorem AnyBut.takeS {i : Nat} {oi : Oper} {v : Value} {n : Nat} {listed : Array Bool} {a : Act} {w : World} (hi : ops[i]? = some oi)
    (hs : Region.noSelect ops = true) (hk : ops.size ≤ k) (hf : Region.free md ops listed i = true) (hr : (Region.ready md ops listed).contains i = true)
    (hQ : ∀ c a w, Q (.panic c) (a.put oi.dst v) w → Q (.panic c) a w) (hS : S w) (hy : YieldsIf P ops S oi v a)
    (h : AnyBut P md ops Q S k n (listed.setIfInBounds i true) (a.put oi.dst v) w) : AnyBut P md ops Q S k (n + 1) listed a w :=
  AnyBut.firstS hi hs hk hQ n listed a w hf (by simpa using hr) hy hS h
/-- Nothing is left. -/
theorem AnyBut.done {n : Nat} {listed : Array Bool} {a : Act} {w : World} (hr : Region.ready md ops listed = []) (h : Q .normal a w) : AnyBut P md ops Q S k n listed a w := by
  cases n with
  | zero => exact ⟨hr, h⟩
  | succ n => exact ⟨fun _ => h, by rw [hr]; intro i hi; cases hi⟩
end
end Go.Proofs.Ytiiibhdohlpodaa
namespace Go.Proofs.Ytiiibhdohlpodaa
open Go.RowKit
attribute [local go_sem ↓] Go.wp_at_zero Go.wp_at_succ
/-- An attribute. -/
structure Pr where
  k : ByteArray
  v : ByteArray
/-- An attribute lies at a place. -/
structure PElt (W : World) (g o : Nat) (p : Pr) : Prop where
  c0 : W.cell? ⟨g, o, none⟩ = some (.string p.k)
  c1 : W.cell? ⟨g, o + 1, none⟩ = some (.string p.v)
theorem PElt.keptS {S : Nat → Prop} {W w : World} {g o : Nat} {p : Pr} (h : PElt W g o p) (k : Kept S W w) (hn : ¬ S g) : PElt w g o p := ⟨k.cell h.c0 hn, k.cell h.c1 hn⟩
/-- Attributes lie in a row. -/
def PsAt (W : World) (ao : Option Addr) (L : List Pr) : Prop := 0 < L.length → ∃ g o, ao = some ⟨g, o, none⟩ ∧ ∀ i p, L[i]? = some p → PElt W g (o + i * 2) p
theorem PsAt.keptS {S : Nat → Prop} {W w : World} {ao : Option Addr} {L : List Pr} (h : PsAt W ao L) (k : Kept S W w) (hn : ∀ a, ao = some a → 0 < L.length → ¬ S a.block) : PsAt w ao L := by
  intro h0
  obtain ⟨g, o, e, hr⟩ := h h0
  exact ⟨g, o, e, fun i p hi => (hr i p hi).keptS k (hn _ e h0)⟩
theorem PsAt.kept {W w : World} {ao : Option Addr} {L : List Pr} (h : PsAt W ao L) (k : Kept (fun _ => False) W w) : PsAt w ao L := h.keptS k (fun _ _ _ x => x)
theorem PsAt.take {W : World} {ao : Option Addr} {L : List Pr} (h : PsAt W ao L) (n : Nat) : PsAt W ao (L.take n) := by
  intro h0
  obtain ⟨g, o, e, hr⟩ := h (by rw [List.length_take] at h0; omega)
  refine ⟨g, o, e, fun i p hi => hr i p ?_⟩
  rw [List.getElem?_take] at hi
  split at hi
  · exact hi
  · cases hi
/-- No text is longer than the machine's numbers, and none of a list. -/
def Sh (n : Nat) (L : List Pr) : Prop := ∀ p ∈ L, p.k.size ≤ n ∧ p.v.size ≤ n
/-- Few and short. -/
def lightL (L : List Pr) : Bool := decide (L.length ≤ 20 ∧ ∀ i, i < L.length → ((L.getD i ⟨ByteArray.empty, ByteArray.empty⟩).k.size ≤ 100 ∧ (L.getD i ⟨ByteArray.empty, ByteArray.empty⟩).v.size ≤ 100))
theorem getD_pr {L : List Pr} {i : Nat} {p : Pr} (h : L[i]? = some p) (d : Pr) : L.getD i d = p := by rw [List.getD_eq_getElem?_getD, h]; rfl
theorem lightL_true {L : List Pr} (h : lightL L = true) : L.length ≤ 20 ∧ Sh 100 L := by
  have h := of_decide_eq_true h
  refine ⟨h.1, fun p hp => ?_⟩
  obtain ⟨i, hi, rfl⟩ := List.getElem_of_mem hp
  have := h.2 i hi
  rw [getD_pr (List.getElem?_eq_getElem hi)] at this
  exact this
set_option maxHeartbeats 2000000 in
theorem refLight11_any (ao : Option Addr) (c : Nat) (L : List Pr) (w : World) (hr : PsAt w ao L) (hl : L.length ≤ 9223372036854775807) :
    Calls Try.prog 47 #[.slice ao L.length c] w fun e w' => e = .returned (.bool (lightL L)) ∧ w = w' := by
  by_cases h1 : 20 < L.length
  · have HF : Hid (lightL L = false) := Lib.hid (decide_eq_false (by omega))
    have q1 : (20 : Int) < (L.length : Int) := by omega
    have q2 : decide (20 < L.length) = true := decide_eq_true h1
    go_enter Try.func47, Try.ntmps47
    go_wp2
    go_ret
    exact ⟨by rw [HF.out]; rfl, rfl⟩
  · have q1 : ¬ (20 : Int) < (L.length : Int) := by omega
    have q2 : decide (20 < L.length) = false := decide_eq_false h1
    have HR := Lib.hid hr
    have HL := Lib.hid h1
    obtain ⟨n, hn⟩ : ∃ n, n = L.length := ⟨_, rfl⟩
    have HN := Lib.hid hn
    rw [← hn] at q1 q2 ⊢
    clear hr hl h1 hn
    go_enter Try.func47, Try.ntmps47
    go_wp2
    go_loopg [3] n (fun g s3 wr => ∃ i : Nat, i ≤ n ∧ g = n - i ∧ s3 = .int .i64 i ∧ w = wr ∧ ∀ j, j < i → ((L.getD j ⟨ByteArray.empty, ByteArray.empty⟩).k.size ≤ 100 ∧ (L.getD j ⟨ByteArray.empty, ByteArray.empty⟩).v.size ≤ 100))
    case atStart => exact ⟨0, Nat.zero_le _, rfl, rfl, rfl, fun j hj => by omega⟩
    case round =>
      obtain ⟨i, hin, rfl, rfl, rfl, ha⟩ := hrel
      have HA := Lib.hid ha
      clear ha
      by_cases hd : i < n
      · have hdi : (i : Int) < (n : Int) := by omega
        have hi0 : (0 : Int) ≤ (i : Int) := by omega
        have HD := Lib.hid hd
        have wi : IntKind.i64.wrap ((i : Int) + 1) = ((i + 1 : Nat) : Int) := by rw [IntWalk.i64_in _ ⟨by omega, by have := HL.out; have := HN.out; omega⟩]; omega
        have hiL : i < L.length := by have := HN.out; omega
        obtain ⟨gb, ob, rfl, hrec⟩ := HR.out (by omega)
        have hel := hrec i L[i] (List.getElem?_eq_getElem hiL)
        have hgd := getD_pr (List.getElem?_eq_getElem hiL) ⟨ByteArray.empty, ByteArray.empty⟩
        obtain ⟨P, hP⟩ : ∃ p, p = L[i] := ⟨_, rfl⟩
        rw [← hP] at hel hgd
        obtain ⟨x0, x1⟩ := hel
        clear hd hin hrec hP
        by_cases hk : P.k.size ≤ 100
        · have k1 : ¬ (100 : Int) < (P.k.size : Int) := by omega
          have k2 : decide (100 < P.k.size) = false := decide_eq_false (by omega)
          by_cases hv : P.v.size ≤ 100
          · have k3 : ¬ (100 : Int) < (P.v.size : Int) := by omega
            have k4 : decide (100 < P.v.size) = false := decide_eq_false (by omega)
            have HOK := Lib.hid (show (L.getD i ⟨ByteArray.empty, ByteArray.empty⟩).k.size ≤ 100 ∧ (L.getD i ⟨ByteArray.empty, ByteArray.empty⟩).v.size ≤ 100 by rw [hgd]; exact ⟨hk, hv⟩)
            clear hk hv hgd
            go_wp2
            go_roundg (n - (i + 1))
            case measure => have := HD.out; omega
            case rel => exact ⟨i + 1, HD.out, rfl, rfl, rfl, all_succ HA.out HOK.out⟩
          · have k3 : (100 : Int) < (P.v.size : Int) := by omega
            have k4 : decide (100 < P.v.size) = true := decide_eq_true (by omega)
            have HF : Hid (lightL L = false) := Lib.hid (decide_eq_false (fun e => by have h := (e.2 i hiL).2; rw [hgd] at h; omega))
            clear hk hv hgd hiL
            go_wp2
            go_ret
            exact ⟨by rw [HF.out]; rfl, rfl⟩
        · have k1 : (100 : Int) < (P.k.size : Int) := by omega
          have k2 : decide (100 < P.k.size) = true := decide_eq_true (by omega)
          have HF : Hid (lightL L = false) := Lib.hid (decide_eq_false (fun e => by have h := (e.2 i hiL).1; rw [hgd] at h; omega))
          clear hk hgd hiL
          go_wp2
          go_ret
          exact ⟨by rw [HF.out]; rfl, rfl⟩
      · obtain rfl : n = i := by omega
        have HF : Hid (lightL L = true) := Lib.hid (decide_eq_true ⟨by have := HL.out; omega, by rw [← HN.out]; exact HA.out⟩)
        clear hd
        go_wp2
        go_ret
        exact ⟨by rw [HF.out]; rfl, rfl⟩
/-- has's function. -/
theorem hasFn_any (kb : Nat) (key : ByteArray) (p : Pr) (w : World) (hk : w.cell? ⟨kb, 0, none⟩ = some (.string key)) :
    Calls Try.prog 90 #[.agg #[.string p.k, .string p.v], .pointer (some ⟨kb, 0, none⟩)] w fun e w' => e = .returned (.bool (p.k.toList == key.toList)) ∧ Kept (fun _ => False) w w' := by
  have ha := fun o => ((Kept.refl (fun _ => False) w).alloc o).cell hk (fun x => x)
  go_enter Try.func90, Try.ntmps90
  go_wp2
  go_ret
  exact ⟨rfl, (Kept.refl _ _).alloc _⟩
end Go.Proofs.Ytiiibhdohlpodaa
namespace Go.Proofs.Ytiiibhdohlpodaa
open Go.RowKit
attribute [local go_sem ↓] Go.wp_at_zero Go.wp_at_succ
/-- Has some attribute the key? -/
def hasB (L : List Pr) (key : ByteArray) : Bool := L.any fun p => p.k.toList == key.toList
theorem any_take_succ {p : Pr → Bool} {L : List Pr} {i : Nat} {x : Pr} (h : L[i]? = some x) : (L.take (i + 1)).any p = ((L.take i).any p || p x) := by
  rw [List.take_add_one, h]
  simp
/-- A function of attributes that tells something, in whichever world behind W. -/
structure Teller (W : World) (f : FuncId) (caps : Array Value) (p : Pr → Bool) : Prop where
  go : ∀ w x, Kept (fun _ => False) W w → Calls Try.prog f (#[.agg #[.string x.k, .string x.v]] ++ caps) w fun e w' => e = .returned (.bool (p x)) ∧ Kept (fun _ => False) w w'
  hcf : ∀ (w : World) (args : Array Value), (callFunc f args).run Try.prog w = .ok (.enter f args) w
set_option maxHeartbeats 2000000 in
theorem indexFunc_any (ao : Option Addr) (c : Nat) (L : List Pr) (f : FuncId) (caps : Array Value) (p : Pr → Bool) (w : World) (hr : PsAt w ao L) (hl : L.length ≤ 1000000) (T : Teller w f caps p) :
    Calls Try.prog 112 #[.slice ao L.length c, .func (.func f) #[] caps] w fun e w' => (∃ z : Int, e = .returned (.int .i64 z) ∧ decide (0 ≤ z) = L.any p) ∧ Kept (fun _ => False) w w' := by
  have HR := Lib.hid hr
  have HT := Lib.hid T
  have hcf := T.hcf
  have HL := Lib.hid hl
  obtain ⟨n, hn⟩ : ∃ n, n = L.length := ⟨_, rfl⟩
  have HN := Lib.hid hn
  rw [← hn]
  clear hr T hl hn
  go_enter Try.func112, Try.ntmps112
  go_wp2
  go_loopg [8] n (fun g s8 wr => ∃ i : Nat, i ≤ n ∧ g = n - i ∧ s8 = .int .i64 i ∧ (L.take i).any p = false ∧ Kept (fun _ => False) w wr)
  case atStart => exact ⟨0, Nat.zero_le _, rfl, rfl, rfl, Kept.refl _ _⟩
  case round =>
    obtain ⟨i, hin, rfl, rfl, ha, kw⟩ := hrel
    have HA := Lib.hid ha
    have HK := Lib.hid kw
    clear ha kw
    by_cases hd : i < n
    · have hdi : (i : Int) < (n : Int) := by omega
      have hi0 : (0 : Int) ≤ (i : Int) := by omega
      have HD := Lib.hid hd
      have wi : IntKind.i64.wrap ((i : Int) + 1) = ((i + 1 : Nat) : Int) := by rw [IntWalk.i64_in _ ⟨by omega, by have := HL.out; have := HN.out; omega⟩]; omega
      have hiL : i < L.length := by have := HN.out; omega
      obtain ⟨gb, ob, rfl, hrec⟩ := HR.out (by omega)
      have hel := (hrec i L[i] (List.getElem?_eq_getElem hiL)).keptS HK.out (fun x => x)
      have hts := any_take_succ (p := p) (List.getElem?_eq_getElem hiL)
      obtain ⟨P, hP⟩ : ∃ p, p = L[i] := ⟨_, rfl⟩
      rw [← hP] at hel hts
      have hmem : P ∈ L := by rw [hP]; exact List.getElem_mem _
      obtain ⟨x0, x1⟩ := hel
      rw [HA.out, Bool.false_or] at hts
      have HGO := Lib.hid (HT.out.go wr P HK.out)
      obtain ⟨b, hb⟩ : ∃ b, b = p P := ⟨_, rfl⟩
      rw [← hb] at HGO hts
      have HTS := Lib.hid hts
      have HPB := Lib.hid hb
      have HMEM := Lib.hid hmem
      clear hd hin hrec hP hiL hts hb hmem
      go_wp2_with fail
      refine HGO.out.mono ?_
      rintro e w1 ⟨rfl, k1⟩
      have HK1 := Lib.hid (HK.out.trans k1)
      clear k1
      cases b with
      | true =>
        go_wp2
        go_ret
        refine ⟨⟨i, rfl, ?_⟩, HK1.out⟩
        rw [decide_eq_true (by omega)]
        exact (List.any_eq_true.2 ⟨P, HMEM.out, HPB.out.symm⟩).symm
      | false =>
        go_wp2
        go_roundg (n - (i + 1))
        case measure => have := HD.out; omega
        case rel => exact ⟨i + 1, HD.out, rfl, rfl, HTS.out, HK1.out⟩
    · obtain rfl : n = i := by omega
      have ha := HA.out
      rw [HN.out, List.take_length] at ha
      have HA2 := Lib.hid ha
      clear hd ha
      go_wp2
      go_ret
      exact ⟨⟨-1, rfl, by rw [HA2.out]; rfl⟩, HK.out⟩
end Go.Proofs.Ytiiibhdohlpodaa
namespace Go.Proofs.Ytiiibhdohlpodaa
open Go.RowKit
attribute [local go_sem ↓] Go.wp_at_zero Go.wp_at_succ
theorem run_cutHn {P : Program} {t E : TypeId} {i : TypeInfo} (ht : P.underlying t = some (.slice E)) (hi : P.info? E = some i) (a : Option Addr) (len cap h : Nat) (hhi : h ≤ cap) (w : World) :
    (Instr.slice t (.slice a len cap) none (some (.int .i64 (h : Int))) none).run P w = .ok (.slice a h cap) w := by
  have he : P.elem t = E := by simp [Program.elem, ht]
  rw [run_slice_h w t a len cap (by rw [he]; exact ht) .i64 h (by omega) (by omega), he]
  have e : (a.map fun x => x.add 0) = a := by cases a <;> simp [add_zero']
  simp [sizeOf, typeInfo, hi, sliced, e]
theorem run_cutHnAt {P : Program} {t E : TypeId} {i : TypeInfo} (ht : P.underlying t = some (.slice E)) (hi : P.info? E = some i) (a : Option Addr) (len cap h : Nat) (hhi : h ≤ cap) (w : World) :
    (Instr.sliceAt t (.slice a len cap) none (some (.int .i64 (h : Int))) none).run P w = .ok (.slice a h cap) w := by
  have he : P.elem t = E := by simp [Program.elem, ht]
  rw [run_sliceAt_slice w t _ _ _ _ (by rw [he]; exact ht)]
  exact run_cutHn ht hi a len cap h hhi w
theorem Try.infoPair : (Try.prog.info? 101).map (fun i => (i.zero, i.size, i.bytes)) = some (some (.agg #[.string ByteArray.empty, .string ByteArray.empty]), 2, 32) := by kernel_rfl
theorem containsFunc_any (ao : Option Addr) (c : Nat) (L : List Pr) (f : FuncId) (caps : Array Value) (p : Pr → Bool) (w : World) (hr : PsAt w ao L) (hl : L.length ≤ 1000000) (T : Teller w f caps p) :
    Calls Try.prog 89 #[.slice ao L.length c, .func (.func f) #[] caps] w fun e w' => e = .returned (.bool (L.any p)) ∧ Kept (fun _ => False) w w' := by
  have HI := Lib.hid (indexFunc_any ao c L f caps p w hr hl T)
  obtain ⟨n, hn⟩ : ∃ n, n = L.length := ⟨_, rfl⟩
  obtain ⟨b, hb⟩ : ∃ b, b = L.any p := ⟨_, rfl⟩
  rw [← hb] at HI ⊢
  rw [← hn] at HI ⊢
  clear hr hl T hn hb
  go_enter Try.func89, Try.ntmps89
  go_wp2_with fail
  refine HI.out.mono ?_
  rintro e w1 ⟨⟨z, rfl, hz⟩, k1⟩
  clear HI
  cases b with
  | true =>
    have hz2 : (0 : Int) ≤ z := of_decide_eq_true hz
    go_wp2
    go_ret
    exact ⟨rfl, k1⟩
  | false =>
    have hz2 : ¬ (0 : Int) ≤ z := of_decide_eq_false hz
    go_wp2
    go_ret
    exact ⟨rfl, k1⟩
theorem enter_has (w : World) (args : Array Value) : (callFunc 90 args).run Try.prog w = .ok (.enter 90 args) w := by
  have hb : (Try.f90).body.isSome = true := by kernel_rfl
  obtain ⟨c, hc⟩ := Option.isSome_iff_exists.1 hb
  have h1 : (Try.f90).name ≠ "runtime.NumGoroutine" := by
    have : ((Try.f90).name == "runtime.NumGoroutine") = false := by kernel_rfl
    simpa using this
  simp [callFunc, Try.func90, h1, hc]
theorem has_any (ao : Option Addr) (c : Nat) (L : List Pr) (key : ByteArray) (w : World) (hr : PsAt w ao L) (hl : L.length ≤ 1000000) :
    Calls Try.prog 67 #[.slice ao L.length c, .string key] w fun e w' => e = .returned (.bool (hasB L key)) ∧ Kept (fun _ => False) w w' := by
  obtain ⟨w1, hw1⟩ : ∃ w1, w1 = w.alloc (.cells #[.string key] 9) := ⟨_, rfl⟩
  have k1 : Kept (fun _ => False) w w1 := by rw [hw1]; exact (Kept.refl _ _).alloc _
  have hc : w1.cell? ⟨w.heap.size, 0, none⟩ = some (.string key) := by rw [hw1]; exact (cell_of_row _ _ 0 _ _ _ (heap_alloc_new w _)).trans rfl
  obtain ⟨kb, hkb⟩ : ∃ k, k = w.heap.size := ⟨_, rfl⟩
  rw [← hkb] at hc
  have T : Teller w1 90 #[.pointer (some ⟨kb, 0, none⟩)] (fun p => p.k.toList == key.toList) := ⟨fun w' x k => hasFn_any kb key x w' (k.cell hc (fun x => x)), enter_has⟩
  have HI := Lib.hid (containsFunc_any ao c L _ _ _ w1 (hr.kept k1) hl T)
  have HW := Lib.hid (And.intro hw1 hkb)
  have HK := Lib.hid k1
  obtain ⟨n, hn⟩ : ∃ n, n = L.length := ⟨_, rfl⟩
  rw [← hn] at HI ⊢
  clear hr hl T hn hw1 k1 hc hkb
  go_enter Try.func67, Try.ntmps67
  go_upto_region 1 with fail
  rw [← HW.out.1, ← HW.out.2]
  go_wp2_with fail
  refine HI.out.mono ?_
  rintro e w2 ⟨rfl, k2⟩
  go_wp2
  go_ret
  exact ⟨rfl, HK.out.trans k2⟩
/-- What is wrong with the i-th attribute. -/
def faultAt (L : List Pr) (i : Nat) : Nat :=
  if nameB (L.getD i ⟨ByteArray.empty, ByteArray.empty⟩).k = true ∧ valueB (L.getD i ⟨ByteArray.empty, ByteArray.empty⟩).v = true then (if hasB (L.take i) (L.getD i ⟨ByteArray.empty, ByteArray.empty⟩).k = true then 8 else 0) else 3
/-- The first fault of so many. -/
def faults (L : List Pr) : Nat → Nat
  | 0 => 0
  | k + 1 => if faults L k ≠ 0 then faults L k else faultAt L k
/-- What is wrong with a label. -/
def checkE (name : ByteArray) (L : List Pr) : Nat := if nameB name = true then (if 4 < L.length then 4 else faults L L.length) else 3
theorem faults_succ {L : List Pr} {i : Nat} (h : faults L i = 0) : faults L (i + 1) = faultAt L i := if_neg (fun e => e h)
theorem faults_stop {L : List Pr} {i : Nat} (h : faults L i ≠ 0) (j : Nat) : faults L (i + j) = faults L i := by
  induction j with
  | zero => rfl
  | succ j ih => rw [← Nat.add_assoc, faults, if_pos (by rw [ih]; exact h), ih]
theorem faults_at {L : List Pr} {i n : Nat} (h : faults L i = 0) (hf : faultAt L i ≠ 0) (hi : i < n) : faults L n = faultAt L i := by
  have h1 := faults_succ h
  have h2 := faults_stop (L := L) (i := i + 1) (by rw [h1]; exact hf) (n - (i + 1))
  rw [Nat.add_sub_cancel' hi] at h2
  rw [h2, h1]
set_option maxRecDepth 100000 in
set_option maxHeartbeats 4000000 in
theorem check_any (name : ByteArray) (ao : Option Addr) (c : Nat) (L : List Pr) (w : World) (hr : PsAt w ao L) (hc : L.length ≤ c) (hl : L.length ≤ 9223372036854775807) (hz : name.size ≤ 9223372036854775807) (hs : Sh 9223372036854775807 L) :
    Calls Try.prog 35 #[.string name, .slice ao L.length c] w fun e w' => e = .returned (.int .i64 ((checkE name L : Nat) : Int)) ∧ Kept (fun _ => False) w w' := by
  have HN := Lib.hid fun w => isName_any name w hz
  have HR := Lib.hid hr
  have HS := Lib.hid hs
  obtain ⟨n, hn⟩ : ∃ n, n = L.length := ⟨_, rfl⟩
  have HNN := Lib.hid hn
  have HE : Hid (checkE name L = if nameB name = true then (if 4 < n then 4 else faults L n) else 3) := Lib.hid (by unfold checkE; rw [hn])
  obtain ⟨b, hb⟩ : ∃ b, b = nameB name := ⟨_, rfl⟩
  rw [← hb] at HN HE
  rw [← hn] at hc hl ⊢
  clear hr hs hn hb hz
  cases b with
  | false =>
    have HE2 := Lib.hid (HE.out.trans (if_neg (by decide)))
    go_enter Try.func35, Try.ntmps35
    go_wp2_with fail
    refine (HN.out w).mono ?_
    rintro e w1 ⟨rfl, rfl⟩
    go_wp2
    go_ret
    exact ⟨by rw [HE2.out]; rfl, Kept.refl _ _⟩
  | true =>
    have HE2 := Lib.hid (HE.out.trans (if_pos rfl))
    by_cases h4 : 4 < n
    · have HE3 := Lib.hid (HE2.out.trans (if_pos h4))
      have q : (4 : Int) < (n : Int) := by omega
      have q2 : decide (4 < n) = true := decide_eq_true h4
      go_enter Try.func35, Try.ntmps35
      go_wp2_with fail
      refine (HN.out w).mono ?_
      rintro e w1 ⟨rfl, rfl⟩
      go_wp2
      go_ret
      exact ⟨by rw [HE3.out]; rfl, Kept.refl _ _⟩
    · have HE3 := Lib.hid (HE2.out.trans (if_neg h4))
      have q : ¬ (4 : Int) < (n : Int) := by omega
      have q2 : decide (4 < n) = false := decide_eq_false h4
      have H4 := Lib.hid h4
      have HCC := Lib.hid hc
      obtain ⟨iP, hiP, hzP0, hzP1, hzP2⟩ := info_parts Try.infoPair
      clear hc hl h4 hzP0 hzP1 hzP2
      go_enter Try.func35, Try.ntmps35
      go_wp2_with fail
      refine (HN.out w).mono ?_
      rintro e w1 ⟨rfl, rfl⟩
      go_wp2
      go_loopg [15] n (fun g s15 wr => ∃ i : Nat, i ≤ n ∧ g = n - i ∧ s15 = .int .i64 i ∧ faults L i = 0 ∧ Kept (fun _ => False) w wr)
      case atStart => exact ⟨0, Nat.zero_le _, rfl, rfl, rfl, Kept.refl _ _⟩
      case round =>
        obtain ⟨i, hin, rfl, rfl, ha, kw⟩ := hrel
        have HA := Lib.hid ha
        have HK := Lib.hid kw
        clear ha kw
        by_cases hd : i < n
        · have hdi : (i : Int) < (n : Int) := by omega
          have hi0 : (0 : Int) ≤ (i : Int) := by omega
          have HD := Lib.hid hd
          have wi : IntKind.i64.wrap ((i : Int) + 1) = ((i + 1 : Nat) : Int) := by rw [IntWalk.i64_in _ ⟨by omega, by have := H4.out; omega⟩]; omega
          have hiL : i < L.length := by have := HNN.out; omega
          obtain ⟨gb, ob, rfl, hrec⟩ := HR.out (by omega)
          have hel := (hrec i L[i] (List.getElem?_eq_getElem hiL)).keptS HK.out (fun x => x)
          have hgd := getD_pr (List.getElem?_eq_getElem hiL) ⟨ByteArray.empty, ByteArray.empty⟩
          have hmem := List.getElem_mem hiL
          have hfa : faultAt L i = faultAt L i := rfl
          unfold faultAt at hfa
          rw [hgd] at hfa
          obtain ⟨P, hP⟩ : ∃ p, p = L[i] := ⟨_, rfl⟩
          rw [← hP] at hel hmem hfa
          have hsz := HS.out P hmem
          have HNK := Lib.hid fun w => isName_any P.k w hsz.1
          have HVV := Lib.hid fun w => isValue_any P.v w hsz.2
          have hcut : ∀ w, _ := fun w => run_cutHn (P := Try.prog) Try.underlying35 hiP (some ⟨gb, ob, none⟩) n c i (by have := HCC.out; omega) w
          have hcutA : ∀ w, _ := fun w => run_cutHnAt (P := Try.prog) Try.underlying35 hiP (some ⟨gb, ob, none⟩) n c i (by have := HCC.out; omega) w
          have HHAS := Lib.hid fun w' (k : Kept (fun _ => False) w w') => has_any (some ⟨gb, ob, none⟩) c (L.take i) P.k w' ((HR.out.kept k).take i) (by rw [List.length_take]; have := HNN.out; have := H4.out; omega)
          rw [List.length_take, Nat.min_eq_left (Nat.le_of_lt hiL)] at HHAS
          obtain ⟨NB, hNB⟩ : ∃ b, b = nameB P.k := ⟨_, rfl⟩
          obtain ⟨VB, hVB⟩ : ∃ b, b = valueB P.v := ⟨_, rfl⟩
          obtain ⟨HB, hHB⟩ : ∃ b, b = hasB (L.take i) P.k := ⟨_, rfl⟩
          rw [← hNB, ← hVB, ← hHB] at hfa
          rw [← hNB] at HNK
          rw [← hVB] at HVV
          rw [← hHB] at HHAS
          obtain ⟨FA, hFA⟩ : ∃ k, k = faultAt L i := ⟨_, rfl⟩
          have HFA := Lib.hid (show faultAt L i = FA from hFA.symm)
          have hfb : FA = if NB = true ∧ VB = true then (if HB = true then 8 else 0) else 3 := by
            rw [hFA]
            unfold faultAt
            rw [hgd, ← hP, ← hNB, ← hVB, ← hHB]
          have HFB := Lib.hid hfb
          obtain ⟨kk, kv⟩ := P
          obtain ⟨x0, x1⟩ := hel
          dsimp only at x0 x1 HNK HVV HHAS
          obtain ⟨w2, hw2⟩ : ∃ w', w' = wr.alloc (.cells #[.string kk, .string kv] 101) := ⟨_, rfl⟩
          have k2 : Kept (fun _ => False) wr w2 := by rw [hw2]; exact (Kept.refl _ _).alloc _
          obtain ⟨qa, hqa⟩ : ∃ q, q = wr.heap.size := ⟨_, rfl⟩
          have hbx : w2.heap[qa]? = some (.cells #[.string kk, .string kv] 101 (0, 0)) := by rw [hw2, hqa]; exact heap_alloc_new wr _
          have y0 : w2.cell? ⟨qa, 0, none⟩ = some (.string kk) := (cell_of_row _ _ 0 _ _ _ hbx).trans rfl
          have y1 : w2.cell? ⟨qa, 1, none⟩ = some (.string kv) := (cell_of_row _ _ 1 _ _ _ hbx).trans rfl
          have HW2 := Lib.hid (And.intro hw2 hqa)
          have HK2 := Lib.hid (HK.out.trans k2)
          clear hd hin hrec hP hiL hgd hmem hfa hsz hNB hVB hHB hFA hfb hw2 k2 hqa hbx
          go_upto_region 8 with fail
          rw [← HW2.out.1, ← HW2.out.2]
          clear x0 x1
          cases NB with
          | false =>
            have HF3 := Lib.hid (HFA.out.trans (HFB.out.trans (if_neg (fun e => by cases e.1))))
            go_wp2_with fail
            refine (HNK.out _).mono ?_
            rintro e w' ⟨rfl, rfl⟩
            go_wp2
            go_ret
            exact ⟨by rw [HE3.out, faults_at HA.out (by rw [HF3.out]; decide) HD.out, HF3.out]; rfl, HK2.out⟩
          | true =>
            cases VB with
            | false =>
              have HF3 := Lib.hid (HFA.out.trans (HFB.out.trans (if_neg (fun e => by cases e.2))))
              go_wp2_with fail
              refine (HNK.out _).mono ?_
              rintro e w' ⟨rfl, rfl⟩
              go_wp2_with fail
              refine (HVV.out _).mono ?_
              rintro e w' ⟨rfl, rfl⟩
              go_wp2
              go_ret
              exact ⟨by rw [HE3.out, faults_at HA.out (by rw [HF3.out]; decide) HD.out, HF3.out]; rfl, HK2.out⟩
            | true =>
              have HF3 := Lib.hid (HFA.out.trans (HFB.out.trans (if_pos ⟨rfl, rfl⟩)))
              go_wp2_with fail
              refine (HNK.out _).mono ?_
              rintro e w' ⟨rfl, rfl⟩
              go_wp2_with fail
              refine (HVV.out _).mono ?_
              rintro e w' ⟨rfl, rfl⟩
              go_upto_region 10 with fail
              have hkd := (Kept.refl (fun _ => False) w2).drew
              have HK3 := Lib.hid (HK2.out.trans hkd)
              have HSS : Hid ((fun w' => w'.cell? ⟨qa, 0, none⟩ = some (.string kk) ∧ w'.cell? ⟨qa, 1, none⟩ = some (.string kv)) w2.drew) := Lib.hid ⟨hkd.cell y0 (fun x => x), hkd.cell y1 (fun x => x)⟩
              clear hkd y0 y1
              refine AnyBut.start (S := fun w' => w'.cell? ⟨qa, 0, none⟩ = some (.string kk) ∧ w'.cell? ⟨qa, 1, none⟩ = some (.string kv)) (k := 6) (by kernel_rfl) ?_
              refine AnyBut.takeS (i := 0) (v := ?v1) rfl (by kernel_rfl) (Nat.le_of_eq (by kernel_rfl)) (by kernel_rfl) (by kernel_rfl) (fun _ _ _ h => h) (HSS.out) (Or.inl ⟨by kernel_rfl, ?hy1⟩) ?r1
              case hy1 =>
                intro w hSw
                try dsimp only at hSw
                go_simp
                try with_reducible rfl
              try simp only [Act.put, List.getElem_toArray, List.getElem_cons_zero, List.setIfInBounds_toArray, List.set_cons_zero, List.set_cons_succ]
              refine AnyBut.takeS (i := 1) (v := ?v2) rfl (by kernel_rfl) (Nat.le_of_eq (by kernel_rfl)) (by kernel_rfl) (by kernel_rfl) (fun _ _ _ h => h) (HSS.out) (Or.inl ⟨by kernel_rfl, ?hy2⟩) ?r2
              case hy2 =>
                intro w hSw
                try dsimp only at hSw
                go_simp
                try with_reducible rfl
              try simp only [Act.put, List.getElem_toArray, List.getElem_cons_succ, List.getElem_cons_zero, List.setIfInBounds_toArray, List.set_cons_zero, List.set_cons_succ]
              refine AnyBut.takeS (i := 2) (v := ?v3) rfl (by kernel_rfl) (Nat.le_of_eq (by kernel_rfl)) (by kernel_rfl) (by kernel_rfl) (fun _ _ _ h => h) (HSS.out) (Or.inl ⟨by kernel_rfl, ?hy3⟩) ?r3
              case hy3 =>
                intro w hSw
                try dsimp only at hSw
                go_simp
                try with_reducible rfl
              try simp only [Act.put, List.getElem_toArray, List.getElem_cons_succ, List.getElem_cons_zero, List.setIfInBounds_toArray, List.set_cons_zero, List.set_cons_succ]
              refine AnyBut.takeS (i := 3) (v := ?v4) rfl (by kernel_rfl) (Nat.le_of_eq (by kernel_rfl)) (by kernel_rfl) (by kernel_rfl) (fun _ _ _ h => h) (HSS.out) (Or.inl ⟨by kernel_rfl, ?hy4⟩) ?r4
              case hy4 =>
                intro w hSw
                try dsimp only at hSw
                go_simp
                try with_reducible rfl
              try simp only [Act.put, List.getElem_toArray, List.getElem_cons_succ, List.getElem_cons_zero, List.setIfInBounds_toArray, List.set_cons_zero, List.set_cons_succ]
              refine AnyBut.takeS (i := 4) (v := ?v5) rfl (by kernel_rfl) (Nat.le_of_eq (by kernel_rfl)) (by kernel_rfl) (by kernel_rfl) (fun _ _ _ h => h) (HSS.out) (Or.inl ⟨by kernel_rfl, ?hy5⟩) ?r5
              case hy5 =>
                intro w hSw
                try dsimp only at hSw
                go_simp
                try with_reducible rfl
              try simp only [Act.put, List.getElem_toArray, List.getElem_cons_succ, List.getElem_cons_zero, List.setIfInBounds_toArray, List.set_cons_zero, List.set_cons_succ]
              refine AnyBut.one (i := 5) (by kernel_rfl) rfl (fun K hK => ?_)
              go_simp
              go_wp2_with fail
              refine (HHAS.out _ (HK3.out)).mono ?_
              rintro e w4 ⟨rfl, k4⟩
              have HK4 := Lib.hid (HK3.out.trans k4)
              have HSS4 : Hid ((fun w' => w'.cell? ⟨qa, 0, none⟩ = some (.string kk) ∧ w'.cell? ⟨qa, 1, none⟩ = some (.string kv)) w4) := Lib.hid ⟨k4.cell HSS.out.1 (fun x => x), k4.cell HSS.out.2 (fun x => x)⟩
              clear k4
              go_wp2
              refine hK.out _ _ (HSS4.out) ?_
              clear hK K
              try simp only [Act.put, List.getElem_toArray, List.getElem_cons_succ, List.getElem_cons_zero, List.setIfInBounds_toArray, List.set_cons_zero, List.set_cons_succ]
              refine AnyBut.done (by kernel_rfl) ?_
              cases HB with
              | false =>
                have HF4 := Lib.hid (HF3.out.trans (if_neg (by decide)))
                go_wp2
                go_roundg (n - (i + 1))
                case measure => have := HD.out; omega
                case rel => exact ⟨i + 1, HD.out, rfl, rfl, by rw [faults_succ HA.out]; exact HF4.out, HK4.out⟩
              | true =>
                have HF4 := Lib.hid (HF3.out.trans (if_pos rfl))
                go_wp2
                go_ret
                exact ⟨by rw [HE3.out, faults_at HA.out (by rw [HF4.out]; decide) HD.out, HF4.out]; rfl, HK4.out⟩
        · obtain rfl : n = i := by omega
          clear hd
          go_wp2
          go_ret
          exact ⟨by rw [HE3.out, HA.out]; rfl, HK.out⟩
end Go.Proofs.Ytiiibhdohlpodaa
namespace Go.Proofs.Ytiiibhdohlpodaa
open Go.RowKit
attribute [local go_sem ↓] Go.wp_at_zero Go.wp_at_succ
end Go.Proofs.Ytiiibhdohlpodaa
namespace Go.Proofs.Ytiiibhdohlpodaa
open Go.RowKit
attribute [local go_sem ↓] Go.wp_at_zero Go.wp_at_succ
def flatP (L : List Pr) : List Value := L.flatMap fun p => [.string p.k, .string p.v]
theorem flatP_length (L : List Pr) : (flatP L).length = L.length * 2 := by
  induction L with
  | nil => rfl
  | cons p L ih => unfold flatP at ih ⊢; rw [List.flatMap_cons, List.length_append, ih]; simp; omega
theorem flatP_append (a b : List Pr) : flatP (a ++ b) = flatP a ++ flatP b := by simp [flatP]
theorem flatP_get {L : List Pr} {i : Nat} {p : Pr} (h : L[i]? = some p) {j : Nat} (hj : j < 2) : (flatP L)[i * 2 + j]? = ([.string p.k, .string p.v] : List Value)[j]? := by
  induction L generalizing i with
  | nil => simp at h
  | cons q L ih =>
    unfold flatP at ih ⊢
    rw [List.flatMap_cons]
    cases i with
    | zero =>
      simp at h; subst h
      rw [List.getElem?_append_left (by simp; omega)]; simp
    | succ i =>
      simp at h
      rw [List.getElem?_append_right (by simp; omega), show (i + 1) * 2 + j - ([.string q.k, .string q.v] : List Value).length = i * 2 + j by simp; omega]
      exact ih h
theorem flatP_one (L : List Pr) : ∀ u ∈ flatP L, u.oneCell' = true := by
  intro u hu
  unfold flatP at hu
  obtain ⟨p, _, hp⟩ := List.mem_flatMap.1 hu
  simp at hp
  rcases hp with rfl | rfl <;> rfl
/-- A row of attributes that was made behind the world W. -/
structure MineP (W w : World) (v : Value) (L : List Pr) : Prop where
  own : w.ownsRow W.heap.size 101 2 v L.length (flatP L)
  kept : Kept (fun _ => False) W w
theorem MineP.nil {W w : World} (k : Kept (fun _ => False) W w) : MineP W w (.slice none 0 0) [] := ⟨World.ownsRow_nil _ _ _ _, k⟩
theorem MineP.on {W w w' : World} {v : Value} {L : List Pr} (h : MineP W w v L) (hk : Kept (fun _ => False) w w') : MineP W w' v L := ⟨hk.owns h.own (fun _ _ x => x), h.kept.trans hk⟩
theorem MineP.keptS {S : Nat → Prop} {W w w' : World} {v : Value} {L : List Pr} (h : MineP W w v L) (hk : Kept S w w') (hn : ∀ k, v.ownBlock = some k → ¬ S k) (hs : ∀ k, S k → W.heap.size ≤ k) : MineP W w' v L := ⟨hk.owns h.own hn, h.kept.newer hk hs⟩
theorem MineP.down {W0 W w : World} {v : Value} {L : List Pr} (h : MineP W w v L) (hk : Kept (fun _ => False) W0 W) : MineP W0 w v L := by
  refine ⟨⟨h.own.1, ?_⟩, hk.trans h.kept⟩
  rcases h.own.2 with h0 | ⟨g, cap, cur, e, hg, rest⟩
  · exact .inl h0
  · exact .inr ⟨g, cap, cur, e, Nat.le_trans hk.size hg, rest⟩
theorem MineP.slice {W w : World} {v : Value} {L : List Pr} (h : MineP W w v L) : ∃ a c, v = .slice a L.length c := ownsRow_slice h.own
theorem MineP.at_ {W w : World} {a : Option Addr} {n c : Nat} {L : List Pr} (h : MineP W w (.slice a n c) L) : PsAt w a L := by
  intro h0
  rcases h.own.2 with ⟨_, e⟩ | ⟨g, cap, cur, e, _⟩
  · omega
  · injection e with e1 e2 e3
    subst e1
    refine ⟨g, 0, rfl, fun i p hi => ?_⟩
    have hc := h.own.cells (g := g) rfl
    have key : ∀ j u, j < 2 → ([.string p.k, .string p.v] : List Value)[j]? = some u → w.cell? ⟨g, i * 2 + j, none⟩ = some u := by
      intro j u hj hu
      have := hc (i * 2 + j) u (by rw [flatP_get hi hj]; exact hu)
      rwa [addr_add0] at this
    exact ⟨by rw [Nat.zero_add]; exact key 0 _ (by omega) rfl, by rw [Nat.zero_add]; exact key 1 _ (by omega) rfl⟩
theorem PsAt.src {w : World} {ao : Option Addr} {L : List Pr} {c : Nat} (h : PsAt w ao L) (h0 : L.length = 0 → True) : Src Try.prog 2 35 (.slice ao L.length c) L.length (flatP L) w := by
  cases ao with
  | none =>
    have hz : L.length = 0 := by
      rcases Nat.eq_zero_or_pos L.length with h1 | h1
      · exact h1
      · obtain ⟨_, _, e, _⟩ := h h1; cases e
    obtain rfl : L = [] := List.length_eq_zero_iff.1 hz
    exact Src.ofNil (w := w) Try.underlying35 c
  | some a =>
    refine Src.ofSlice _ Try.underlying35 a L.length c (flatP L) (flatP_length L) ?_ (flatP_one L)
    intro j u hu
    have hj : j < L.length * 2 := by have := (List.getElem?_eq_some_iff.1 hu).1; rwa [flatP_length] at this
    obtain ⟨g, o, e, hr⟩ := h (by omega)
    cases e
    have hi : j / 2 < L.length := by omega
    have hp := hr (j / 2) L[j / 2] (List.getElem?_eq_getElem hi)
    have hg := flatP_get (List.getElem?_eq_getElem hi) (j := j % 2) (by omega)
    rw [show j / 2 * 2 + j % 2 = j by omega, hu] at hg
    have e : (⟨g, o, none⟩ : Addr).add j = ⟨g, o + j, none⟩ := by unfold Addr.add; split <;> simp_all
    rw [e]
    rcases Nat.mod_two_eq_zero_or_one j with hm | hm
    · rw [hm] at hg
      injection hg with hg
      subst hg
      have := hp.c0
      rwa [show j / 2 * 2 = j by omega] at this
    · rw [hm] at hg
      injection hg with hg
      subst hg
      have := hp.c1
      rwa [show o + j / 2 * 2 + 1 = o + j by omega] at this
theorem wpList_mineP {ops : Array Oper} {rest : List Oper} {o : Oper} {a : Act} {Q : Exit → Act → World → Prop} {w : World} (hgd : o.guard = none) (s x : Operand)
    (ho : o.op = .call { callee := .builtin .append, args := #[s, x], argTypes := #[35, 35] })
    (W : World) (v : Value) (L : List Pr) (hv : a.eval s = v) (hm : MineP W w v L)
    (y : Value) (M : List Pr) (m : Nat) (hmm : M.length = m) (hy : a.eval x = y) (hs : Src Try.prog 2 35 y m (flatP M) w)
    (hl : L.length + m ≤ 1000000000)
    (h : ∀ v' w', MineP W w' v' (L ++ M) → Kept (fun k => v.ownBlock = some k) w w' → wpList Try.prog ops Q rest (a.put o.dst v') w') : wpList Try.prog ops Q (o :: rest) a w := by
  obtain ⟨i, hi, hz0, hz1, hz2⟩ := info_parts Try.infoPair
  refine wpList_append_src w hgd s x _ _ ho W.heap.size 101 i _ 2 32 Try.underlying35 hi hz0 hz1 hz2 rfl v L.length (flatP L) hv hm.own y m (flatP M) hy hs (by unfold maxLen; omega) (by omega) hm.kept.size ?_
  intro v' w' hown hg _ hat
  refine h v' w' ⟨?_, ?_⟩ ((Kept.refl (fun k => v.ownBlock = some k) w).grown hg (fun k e _ => e))
  · rw [List.length_append, flatP_append, hmm]
    exact hown
  · exact hm.kept.grown hg (fun k e hlt => by have := (ownsRow_lt hm.own e).2; omega)
end Go.Proofs.Ytiiibhdohlpodaa
namespace Go.Proofs.Ytiiibhdohlpodaa
open Go.RowKit
attribute [local go_sem ↓] Go.wp_at_zero Go.wp_at_succ
set_option maxHeartbeats 1000000 in
theorem pclone_any (ao : Option Addr) (c : Nat) (L : List Pr) (w : World) (hv : PsAt w ao L) (hl : L.length ≤ 1000000) :
    Calls Try.prog 84 #[.slice ao L.length c] w fun e w' => ∃ v, e = .returned v ∧ MineP w w' v L := by
  have q29 := fun (w : World) (a : Option Addr) (n c n' c' : Nat) => Lib.run_eql_slice_nil (P := Try.prog) w 35 101 a n c n' c' Try.underlying35
  cases ao with
  | none =>
    have hz : L = [] := by
      rcases Nat.eq_zero_or_pos L.length with h1 | h1
      · exact List.length_eq_zero_iff.1 h1
      · obtain ⟨_, _, e, _⟩ := hv h1; cases e
    subst hz
    clear hv
    go_enter Try.func84, Try.ntmps84
    go_wp2
    go_ret
    exact ⟨_, rfl, MineP.nil (Kept.refl _ _)⟩
  | some a =>
    have hs := PsAt.src (c := c) (hv.kept ((Kept.refl (fun _ => False) w).alloc (.cells #[] 101))) (fun _ => trivial)
    have hown0 : MineP w (w.alloc (.cells #[] 101)) (.slice (some ⟨w.heap.size, 0, none⟩) 0 0) [] :=
      ⟨⟨rfl, .inr ⟨w.heap.size, 0, #[], rfl, Nat.le_refl _, heap_alloc_new w _, Nat.le_refl _, by unfold maxLen; omega, rfl, rfl⟩⟩, (Kept.refl _ _).alloc _⟩
    have HO := Lib.hid hown0
    obtain ⟨n, hn⟩ : ∃ n, n = L.length := ⟨_, rfl⟩
    rw [← hn] at hs hl ⊢
    have HS := Lib.hid hs
    have HN := Lib.hid hn.symm
    have HL := Lib.hid hl
    clear hv hown0 hs hn hl
    go_enter Try.func84, Try.ntmps84
    go_wp2_with (at_builtin; refine wpList_mineP rfl (.tmp 5) (.tmp 6) rfl w _ [] rfl HO.out _ L n HN.out rfl HS.out (by have := HL.out; simp; omega) ?_; intro v' w1 hm hk; have HM := Lib.hid hm; clear hm hk)
    go_ret
    exact ⟨_, rfl, by have := HM.out; simpa using this⟩
end Go.Proofs.Ytiiibhdohlpodaa
namespace Go.Proofs.Ytiiibhdohlpodaa
open Go.RowKit
attribute [local go_sem ↓] Go.wp_at_zero Go.wp_at_succ
end Go.Proofs.Ytiiibhdohlpodaa
namespace Go.Proofs.Ytiiibhdohlpodaa
open Go.RowKit
attribute [local go_sem ↓] Go.wp_at_zero Go.wp_at_succ
end Go.Proofs.Ytiiibhdohlpodaa
namespace Go.Proofs.Ytiiibhdohlpodaa
open Go.RowKit
attribute [local go_sem ↓] Go.wp_at_zero Go.wp_at_succ
end Go.Proofs.Ytiiibhdohlpodaa
namespace Go.Proofs.Ytiiibhdohlpodaa
open Go.RowKit
attribute [local go_sem ↓] Go.wp_at_zero Go.wp_at_succ
theorem Sh.mono {a b : Nat} {L : List Pr} (h : Sh a L) (hb : a ≤ b) : Sh b L := fun p hp => ⟨Nat.le_trans (h p hp).1 hb, Nat.le_trans (h p hp).2 hb⟩
end Go.Proofs.Ytiiibhdohlpodaa
namespace Go.Proofs.Ytiiibhdohlpodaa
open Go.RowKit
attribute [local go_sem ↓] Go.wp_at_zero Go.wp_at_succ
end Go.Proofs.Ytiiibhdohlpodaa
namespace Go.Proofs.Ytiiibhdohlpodaa
open Go.RowKit
attribute [local go_sem ↓] Go.wp_at_zero Go.wp_at_succ
end Go.Proofs.Ytiiibhdohlpodaa
namespace Go.Proofs.Ytiiibhdohlpodaa
open Go.RowKit
attribute [local go_sem ↓] Go.wp_at_zero Go.wp_at_succ
theorem run_make1 {P : Program} {t e : TypeId} {i : TypeInfo} {z : Value} (ht : P.underlying t = some (.slice e)) (hi : P.info? e = some i) (hz : i.zero = some z) (hs : i.size = 1) (hzc : z.cells = #[z]) (hb : i.bytes ≤ 64) (n : Nat) (hn : n ≤ 1000000) (w : World) :
    (Instr.makeSlice t (.int .i64 (n : Int)) (.int .i64 (n : Int))).run P w = .ok (.slice (some ⟨w.heap.size, 0, none⟩) n n) (w.alloc (.cells (Array.replicate n z) e)) := by
  have hbn : (i.bytes : Int) * (n : Int) ≤ 64 * 1000000 := by
    have : i.bytes * n ≤ 64 * 1000000 := Nat.mul_le_mul hb hn
    have h2 : ((i.bytes * n : Nat) : Int) ≤ 64 * 1000000 := by omega
    rwa [Int.natCast_mul] at h2
  have hr := run_makeSlice (P := P) w t e i z ht hi hz .i64 .i64 (n : Int) (n : Int) (by omega) (Int.le_refl _) (by rw [hs]; omega) (by omega) (by omega)
  rw [hr]
  simp only [Int.toNat_natCast]
  have e : madeCells z.cells (n * i.size) = Array.replicate n z := by
    rw [hs, Nat.mul_one, hzc]
    apply Array.toList_inj.1
    rw [toList_madeCells_one]; simp
  rw [e]
theorem mine_made {W w : World} (hk : Kept (fun _ => False) W w) (n : Nat) (z : Value) (E : TypeId) (hn : n ≤ maxLen) : Mine W (w.alloc (.cells (Array.replicate n z) E)) E (.slice (some ⟨w.heap.size, 0, none⟩) n n) (List.replicate n z) := by
  refine ⟨⟨by simp, .inr ⟨w.heap.size, n, _, by simp, hk.size, heap_alloc_new w _, by simp, hn, by simp, ?_⟩⟩, hk.alloc _⟩
  simp
theorem uvals_set (l : List Nat) (j x : Nat) : (uvals l).set j (.int .u64 (x : Int)) = uvals (l.set j x) := by unfold uvals; rw [List.map_set]
theorem uvals_replicate (n : Nat) : uvals (List.replicate n 0) = List.replicate n (.int .u64 0) := by unfold uvals; rw [List.map_replicate]; rfl
end Go.Proofs.Ytiiibhdohlpodaa
namespace Go.Proofs.Ytiiibhdohlpodaa
open Go.RowKit
attribute [local go_sem ↓] Go.wp_at_zero Go.wp_at_succ
end Go.Proofs.Ytiiibhdohlpodaa
namespace Go.Proofs.Ytiiibhdohlpodaa
open Go.RowKit
attribute [local go_sem ↓] Go.wp_at_zero Go.wp_at_succ
theorem results_ct {P : Program} {fn : Func} {p t : Tmp} {ty : TypeId} (h : fn.results = #[.cell p ty, .tmp t]) (tmps : Array Value) (w : World) (g : Nat) (t' : TypeId) (cs : Array Value) (fr : Nat × Nat) (d : TypeDesc)
    (hp : tmps.getD p undef = .pointer (some ⟨g, 0, none⟩)) (hg : w.heap[g]? = some (.cells cs t' fr))
    (hu : P.underlying ty = some d) (hd : (match d with | .struct _ | .array _ _ => true | _ => false) = true) (hi : (P.info? ty).map (·.size) = some cs.size) :
    (results fn tmps).run P w = .ok (.tuple #[.agg cs, tmps.getD t undef]) w := by
  have hp' : tmps[p]?.getD undef = .pointer (some ⟨g, 0, none⟩) := by simpa using hp
  simp [results, h, hp', asAddr, run_loadVar_row w g t' ty cs fr d hg hu hd hi]
end Go.Proofs.Ytiiibhdohlpodaa
namespace Go.Proofs.Ytiiibhdohlpodaa
open Go.RowKit
attribute [local go_sem ↓] Go.wp_at_zero Go.wp_at_succ
end Go.Proofs.Ytiiibhdohlpodaa
namespace Go.Proofs.Ytiiibhdohlpodaa
open Go.RowKit
attribute [local go_sem ↓] Go.wp_at_zero Go.wp_at_succ
end Go.Proofs.Ytiiibhdohlpodaa
namespace Go.Proofs.Ytiiibhdohlpodaa
open Go.ChangeShapes Go.WideShapes Go.ChangeAt Go.RowKit Go.Deep
theorem trod_i64 {H : Type} {enc : TypeId × Value → H} {P : Program} {T : TypeId} {k : IntKind} {W : World} {sp n : Nat} {v : Value} {y : DataW H × List MemPlace}
    (hT : P.underlying T = some (.int k)) (h : DataW.trod enc P W sp (fun _ => true) true n T [v] = some y) : ∃ x, v = .int k x ∧ (Lit.int k x).wf = true := by
  obtain ⟨x, e, _, hw⟩ := DataW.trod_int hT h
  injection e with e _
  exact ⟨x, e, hw⟩
theorem choose_list {α : Type} {n : Nat} {P : Nat → α → Prop} (h : ∀ i, i < n → ∃ r, P i r) : ∃ l : List α, l.length = n ∧ ∀ i r, l[i]? = some r → P i r := by
  induction n with
  | zero => exact ⟨[], rfl, by simp⟩
  | succ n ih =>
    obtain ⟨l, hl, hp⟩ := ih (fun i hi => h i (by omega))
    obtain ⟨r, hr⟩ := h n (by omega)
    refine ⟨l ++ [r], by simp [hl], fun i r' hi => ?_⟩
    rw [List.getElem?_append] at hi
    split at hi
    · exact hp i r' hi
    · rename_i h1
      have h2 : i - l.length = 0 := by
        rcases Nat.eq_zero_or_pos (i - l.length) with h | h
        · exact h
        · rw [List.getElem?_eq_none (by simp; omega)] at hi; cases hi
      rw [h2] at hi
      simp at hi
      have h3 : i = n := by omega
      subst hi; rw [h3]; exact hr
end Go.Proofs.Ytiiibhdohlpodaa
namespace Go.Proofs.Ytiiibhdohlpodaa
open Go.ChangeShapes Go.WideShapes Go.ChangeAt Go.Deep Go.RowKit
/-- Attributes that came in. -/
structure PairsIn (W : World) (ao : Option Addr) (cap : Nat) (L : List Pr) : Prop where
  at_ : PsAt W ao L
  sh : Sh maxLen L
  cap : L.length ≤ cap
theorem pair_at_cells {H : Type} {enc : TypeId × Value → H} {W : World} {sp n : Nat} {c0 c1 : Value} {y : DataW H × List MemPlace} (hf : DataW.trod enc Try.prog W sp (fun _ => true) true n 101 [c0, c1] = some y) :
    ∃ p : Pr, (c0 = .string p.k ∧ c1 = .string p.v) ∧ p.k.size ≤ maxLen ∧ p.v.size ≤ maxLen := by
  obtain ⟨y0, y1, m, _, _, h0, h1⟩ := trod_struct2 Try.underlying101 (cs := [c0, c1]) hf
  have k0 : Try.prog.cellsOf 9 = 1 := by kernel_rfl
  simp only [k0, List.drop_zero, List.drop_succ_cons, List.take_succ_cons, List.take_zero] at h0 h1
  obtain ⟨s, e0, _, w0⟩ := DataW.trod_string Try.underlying9 h0
  obtain ⟨t, e1, _, w1⟩ := DataW.trod_string Try.underlying9 h1
  injection e0 with e0 _
  injection e1 with e1 _
  subst e0 e1
  exact ⟨⟨s, t⟩, ⟨rfl, rfl⟩, w0, w1⟩
set_option maxRecDepth 100000 in
theorem pairs_of {H : Type} {enc : TypeId × Value → H} {W : World} {sp : Nat} {a : Option Addr} {len cap : Nat} {d : DataW H} {p : List MemPlace}
    (h : DataW.Trod enc Try.prog W sp (fun _ => true) true 35 (.slice a len cap) d p) : ∃ L : List Pr, L.length = len ∧ PairsIn W a cap L ∧ len ≤ cap ∧ len ≤ 9223372036854775807 := by
  obtain ⟨fuel, hf⟩ := h
  have k2 : Try.prog.cellsOf 101 = 2 := by kernel_rfl
  rcases open_slice Try.underlying35 hf with ⟨hcs, _⟩ | ⟨x, l, c, m, n, D, Pl, hcs, _, hl, hm, hmm, _, hi⟩
  · simp [Value.cells] at hcs
    obtain ⟨rfl, rfl, rfl⟩ := hcs
    exact ⟨[], rfl, ⟨fun h => absurd h (by simp), fun p hp => (by cases hp), Nat.zero_le _⟩, Nat.le_refl _, by omega⟩
  · simp [Value.cells] at hcs
    obtain ⟨rfl, rfl, rfl⟩ := hcs
    unfold maxLen at hm
    rcases Nat.eq_zero_or_pos len with h0 | h0
    · subst h0
      exact ⟨[], rfl, ⟨fun h => absurd h (by simp), fun p hp => (by cases hp), Nat.zero_le _⟩, by omega, by omega⟩
    · have key0 : ∀ i, i < len → ∃ q : Pr, (∀ j u, (([.string q.k, .string q.v] : List Value)[j]? = some u) → W.cell? (x.add (i * 2 + j)) = some u) ∧ q.k.size ≤ maxLen ∧ q.v.size ≤ maxLen := by
        intro i hi'
        obtain ⟨cs', hc, ht'⟩ := hi i (by simp at hmm; omega)
        rw [k2] at hc
        obtain ⟨hlen, hcl, hat⟩ := World.cells?_some hc
        match cs', hcl with
        | [c0, c1], _ =>
          obtain ⟨q, ⟨e0, e1⟩, hq⟩ := pair_at_cells ht'
          subst e0 e1
          refine ⟨q, fun j u hj => ?_, hq⟩
          have hj2 : j < 2 := by
            have := (List.getElem?_eq_some_iff.1 hj).1
            simpa using this
          have := hat j hj2
          rw [Go.Deep.add_add] at this
          rw [this]
          exact hj
      obtain ⟨g, o, spot⟩ := x
      have hspot : spot = Option.none := by
        obtain ⟨q, hq, _⟩ := key0 0 h0
        have c0 := hq 0 _ rfl
        simpa [Addr.add] using World.cell?_spot c0
      subst hspot
      have key : ∀ i, i < len → ∃ q : Pr, PElt W g (o + i * 2) q ∧ q.k.size ≤ maxLen ∧ q.v.size ≤ maxLen := by
        intro i hi'
        obtain ⟨q, hq, h1⟩ := key0 i hi'
        refine ⟨q, ⟨?_, ?_⟩, h1⟩
        · have := hq 0 _ rfl; rwa [Go.WideShapes.add_plain] at this
        · have := hq 1 _ rfl; rwa [Go.WideShapes.add_plain] at this
      obtain ⟨rs, hrs, hp⟩ := choose_list key
      refine ⟨rs, hrs, ⟨fun _ => ⟨g, o, rfl, fun i p hi => (hp i p hi).1⟩, fun p hpm => ?_, by omega⟩, hl, by omega⟩
      obtain ⟨i, hi, e⟩ := List.getElem_of_mem hpm
      exact (hp i p (by rw [List.getElem?_eq_getElem hi, e])).2
end Go.Proofs.Ytiiibhdohlpodaa
namespace Go.Proofs.Ytiiibhdohlpodaa
open Go.RowKit
end Go.Proofs.Ytiiibhdohlpodaa
namespace Go.Proofs.Ytiiibhdohlpodaa
open Go.RowKit
attribute [local go_sem ↓] Go.wp_at_zero Go.wp_at_succ
end Go.Proofs.Ytiiibhdohlpodaa

