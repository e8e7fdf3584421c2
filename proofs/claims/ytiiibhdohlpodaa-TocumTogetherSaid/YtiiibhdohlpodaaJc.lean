/- Texts put together for a seat that lacks some of the functions: Zc (tools/strip.py). -/
import Derived.Test.YtiiibhdohlpodaaProg
import Derived.OrdersHeld
import Derived.StillTail
import Derived.Deep.RegionHeld3
import Derived.Deep.WholeRow
import Derived.BigRegion
import Derived.Laws.StructEq
import Derived.Lib.Bytealg
import Derived.Lib.Strings
import Derived.BigCall
import Derived.BigGuard
import Derived.Test.YtiiibhdohlpodaaRows
import Derived.Lib.LaidTab
import Derived.LaidMore
import Derived.Lay
import Derived.LaidOnce
import Derived.LaidLaws
import Derived.Stop.Joined
import Derived.Deep.Slices
import Derived.Deep.Fields
import Derived.ChangeSame
import Derived.Test.YtiiibhdohlpodaaJa
-- Zc
-- A1
namespace Go.Proofs.Ytiiibhdohlpodaa
open Go.RowKit
attribute [local go_sem ↓] Go.wp_at_zero Go.wp_at_succ

def letterB (c : Nat) : Bool := decide (97 ≤ c ∧ c ≤ 122)
def otherB (c : Nat) : Bool := decide ((48 ≤ c ∧ c ≤ 57) ∨ c = 95 ∨ c = 46)
/-- Is that a name, or a key? -/
def nameB (s : ByteArray) : Bool := decide ((1 ≤ s.size ∧ s.size ≤ 32) ∧ letterB (chr s 0) = true ∧ ∀ i, i < s.size → letterB (chr s i) = true ∨ otherB (chr s i) = true)
def okV (c : Nat) : Bool := decide (33 ≤ c ∧ c ≤ 126 ∧ c ≠ 61 ∧ c ≠ 59 ∧ c ≠ 44)
/-- Is that a value? -/
def valueB (s : ByteArray) : Bool := decide ((1 ≤ s.size ∧ s.size ≤ 32) ∧ ∀ i, i < s.size → okV (chr s i) = true)
theorem nameB_no {s : ByteArray} (h : ¬ ((1 ≤ s.size ∧ s.size ≤ 32) ∧ letterB (chr s 0) = true)) : nameB s = false := decide_eq_false (fun e => h ⟨e.1, e.2.1⟩)
theorem nameB_at {s : ByteArray} {i : Nat} (hi : i < s.size) (h1 : letterB (chr s i) = false) (h2 : otherB (chr s i) = false) : nameB s = false := decide_eq_false (fun e => by rcases e.2.2 i hi with h | h; rw [h1] at h; cases h; rw [h2] at h; cases h)
theorem nameB_yes {s : ByteArray} (h : (1 ≤ s.size ∧ s.size ≤ 32) ∧ letterB (chr s 0) = true) (ha : ∀ i, i < s.size → letterB (chr s i) = true ∨ otherB (chr s i) = true) : nameB s = true := decide_eq_true ⟨h.1, h.2, ha⟩
theorem valueB_no {s : ByteArray} (h : ¬ (1 ≤ s.size ∧ s.size ≤ 32)) : valueB s = false := decide_eq_false (fun e => h e.1)
theorem valueB_at {s : ByteArray} {i : Nat} (hi : i < s.size) (h1 : okV (chr s i) = false) : valueB s = false := decide_eq_false (fun e => by have h := e.2 i hi; rw [h1] at h; cases h)
theorem valueB_yes {s : ByteArray} (h : 1 ≤ s.size ∧ s.size ≤ 32) (ha : ∀ i, i < s.size → okV (chr s i) = true) : valueB s = true := decide_eq_true ⟨h, ha⟩
theorem all_succ {p : Nat → Prop} {i : Nat} (h : ∀ j, j < i → p j) (hi : p i) : ∀ j, j < i + 1 → p j := fun j hj => by
  rcases Nat.lt_or_ge j i with h1 | h1
  · exact h j h1
  · obtain rfl : j = i := by omega
    exact hi

theorem lsmall_any (c : Nat) (w : World) :
    Calls Try.prog 88 #[.int .u8 (c : Int)] w fun e w' => e = .returned (.bool (letterB c)) ∧ w = w' := by
  have hcase : (97 ≤ c ∧ c ≤ 122) ∨ ((97 : Int) ≤ c ∧ ¬ (c : Int) ≤ 122) ∨ ¬ (97 : Int) ≤ c := by omega
  rcases hcase with ⟨h1, h2⟩ | ⟨h1, h2⟩ | h1
  · have hd : Hid (letterB c = true) := Lib.hid (decide_eq_true ⟨h1, h2⟩)
    have a1 : (97 : Int) ≤ (c : Int) := by omega
    have a2 : (c : Int) ≤ 122 := by omega
    clear h1 h2
    go_enter Try.func88, Try.ntmps88
    go_wp2
    go_ret
    exact ⟨by rw [hd.out]; rfl, rfl⟩
  · have hd : Hid (letterB c = false) := Lib.hid (decide_eq_false (by omega))
    go_enter Try.func88, Try.ntmps88
    go_wp2
    go_ret
    exact ⟨by rw [hd.out]; rfl, rfl⟩
  · have hd : Hid (letterB c = false) := Lib.hid (decide_eq_false (by omega))
    go_enter Try.func88, Try.ntmps88
    go_wp2
    go_ret
    exact ⟨by rw [hd.out]; rfl, rfl⟩

set_option maxHeartbeats 4000000 in
theorem isName_any (s : ByteArray) (w : World) (hs : s.size ≤ 9223372036854775807) :
    Calls Try.prog 65 #[.string s] w fun e w' => e = .returned (.bool (nameB s)) ∧ w = w' := by
  have hS : ∀ i, i < s.size → ∀ w, (Instr.index 9 (.string s) (.int .i64 (i : Int))).run Try.prog w = .ok (.int .u8 (chr s i : Int)) w := fun i hi w => run_chr Try.underlying9 s i hi w
  by_cases h0 : s.size = 0
  · have HR := Lib.hid (nameB_no (s := s) (by omega))
    have q : ((s.size : Int) == 0) = true := by simp [h0]
    have q' : (s.size == 0) = true := by simp [h0]
    clear hS h0
    go_enter Try.func65, Try.ntmps65
    go_wp2
    go_ret
    exact ⟨by rw [HR.out]; rfl, rfl⟩
  have q : ((s.size : Int) == 0) = false := by simp [h0]
  have q' : (s.size == 0) = false := by simp [h0]
  by_cases h1 : 32 < s.size
  · have HR := Lib.hid (nameB_no (s := s) (by omega))
    have q1 : (32 : Int) < (s.size : Int) := by omega
    have q2 : decide (32 < s.size) = true := decide_eq_true h1
    clear hS h0
    go_enter Try.func65, Try.ntmps65
    go_wp2
    go_ret
    exact ⟨by rw [HR.out]; rfl, rfl⟩
  have q1 : ¬ (32 : Int) < (s.size : Int) := by omega
  have q2 : decide (32 < s.size) = false := decide_eq_false h1
  have hs0 : ∀ w, (Instr.index 9 (.string s) (.int .i64 0)).run Try.prog w = .ok (.int .u8 (chr s 0 : Int)) w := hS 0 (by omega)
  have HS := Lib.hid hS
  have HN := Lib.hid (show 1 ≤ s.size ∧ s.size ≤ 32 from ⟨by omega, by omega⟩)
  have HSM := Lib.hid (lsmall_any (chr s 0))
  cases hl : letterB (chr s 0) with
  | false =>
    have HR := Lib.hid (nameB_no (s := s) (by rw [hl]; exact fun e => by cases e.2))
    rw [hl] at HSM
    obtain ⟨c0, hc0⟩ : ∃ c, c = chr s 0 := ⟨_, rfl⟩
    rw [← hc0] at hs0 HSM
    clear hS h0 h1 hc0 hl
    go_enter Try.func65, Try.ntmps65
    go_wp2_with fail
    refine (HSM.out _).mono ?_
    rintro e w' ⟨rfl, rfl⟩
    go_wp2
    go_ret
    exact ⟨by rw [HR.out]; rfl, rfl⟩
  | true =>
    have HL := Lib.hid hl
    rw [hl] at HSM
    obtain ⟨c0, hc0⟩ : ∃ c, c = chr s 0 := ⟨_, rfl⟩
    rw [← hc0] at hs0 HSM
    clear hS h0 h1 hc0 hl
    go_enter Try.func65, Try.ntmps65
    go_wp2_with fail
    refine (HSM.out _).mono ?_
    rintro e w' ⟨rfl, rfl⟩
    go_wp2
    obtain ⟨n, hn⟩ : ∃ n, n = s.size := ⟨_, rfl⟩
    have HNN := Lib.hid hn
    rw [← hn]
    clear hs0 hs q q' q1 q2 hn
    go_loopg [21] n (fun g s21 wr => ∃ i : Nat, i ≤ n ∧ g = n - i ∧ s21 = .int .i64 i ∧ w = wr ∧ ∀ j, j < i → letterB (chr s j) = true ∨ otherB (chr s j) = true)
    case atStart => exact ⟨0, Nat.zero_le _, rfl, rfl, rfl, fun j hj => by omega⟩
    case round =>
      obtain ⟨i, hin, rfl, rfl, rfl, ha⟩ := hrel
      have HA := Lib.hid ha
      clear ha
      by_cases hd : i < n
      · have hdi : (i : Int) < (n : Int) := by omega
        have HD := Lib.hid hd
        have wi : IntKind.i64.wrap ((i : Int) + 1) = ((i + 1 : Nat) : Int) := by rw [IntWalk.i64_in _ ⟨by omega, by have := HN.out; have := HNN.out; omega⟩]; omega
        have hix := HS.out i (by have := HNN.out; omega)
        have HSI := Lib.hid (lsmall_any (chr s i))
        have hlt := chr_lt s i
        obtain ⟨c, hc⟩ : ∃ c, c = chr s i := ⟨_, rfl⟩
        rw [← hc] at hix HSI hlt
        have HC := Lib.hid hc
        obtain ⟨LB, hLB⟩ : ∃ b, b = letterB c := ⟨_, rfl⟩
        have hLB2 := hLB
        rw [← hLB] at HSI
        clear hd hin hc
        have hcase : LB = true ∨ (LB = false ∧ (48 : Int) ≤ c ∧ (c : Int) ≤ 57) ∨ (LB = false ∧ c < 48 ∧ c = 46) ∨ (LB = false ∧ c < 48 ∧ c ≠ 46) ∨ (LB = false ∧ 57 < c ∧ c = 95) ∨ (LB = false ∧ 57 < c ∧ c ≠ 95) := by
          cases LB <;> simp <;> omega
        rcases hcase with rfl | ⟨rfl, c1, c2⟩ | ⟨rfl, c1, rfl⟩ | ⟨rfl, c1, c2⟩ | ⟨rfl, c1, rfl⟩ | ⟨rfl, c1, c2⟩
        · have HOK := Lib.hid (show letterB (chr s i) = true ∨ otherB (chr s i) = true from .inl (by rw [← HC.out]; exact hLB.symm))
          clear hLB hLB2
          go_wp2_with fail
          refine (HSI.out _).mono ?_
          rintro e w' ⟨rfl, rfl⟩
          go_wp2
          go_roundg (n - (i + 1))
          case measure => have := HD.out; omega
          case rel => exact ⟨i + 1, HD.out, rfl, rfl, rfl, all_succ HA.out HOK.out⟩
        · have HOK := Lib.hid (show letterB (chr s i) = true ∨ otherB (chr s i) = true from .inr (by rw [← HC.out]; exact decide_eq_true (by omega)))
          have g1 : ¬ (c : Int) < 48 := by omega
          have g2 : ¬ (57 : Int) < (c : Int) := by omega
          have g3 : decide (c < 48) = false := decide_eq_false (by omega)
          have g4 : decide (57 < c) = false := decide_eq_false (by omega)
          clear hLB hLB2 c1 c2
          go_wp2_with fail
          refine (HSI.out _).mono ?_
          rintro e w' ⟨rfl, rfl⟩
          go_wp2
          go_roundg (n - (i + 1))
          case measure => have := HD.out; omega
          case rel => exact ⟨i + 1, HD.out, rfl, rfl, rfl, all_succ HA.out HOK.out⟩
        · have HOK := Lib.hid (show letterB (chr s i) = true ∨ otherB (chr s i) = true from .inr (by rw [← HC.out]; rfl))
          clear hLB hLB2 c1
          go_wp2_with fail
          refine (HSI.out _).mono ?_
          rintro e w' ⟨rfl, rfl⟩
          go_wp2
          go_roundg (n - (i + 1))
          case measure => have := HD.out; omega
          case rel => exact ⟨i + 1, HD.out, rfl, rfl, rfl, all_succ HA.out HOK.out⟩
        · have HR := Lib.hid (nameB_at (s := s) (i := i) (by have := HNN.out; have := HD.out; omega) (by rw [← HC.out]; exact hLB.symm) (by rw [← HC.out]; exact decide_eq_false (by omega)))
          have g1 : (c : Int) < 48 := by omega
          have g3 : decide (c < 48) = true := decide_eq_true (by omega)
          have g5 : ((c : Int) != 95) = true := bneT (by omega)
          have g6 : ((c : Int) != 46) = true := bneT (by omega)
          have g7 : (c != 95) = true := by simp; omega
          have g8 : (c != 46) = true := by simp; omega
          clear hLB hLB2 c1 c2
          go_wp2_with fail
          refine (HSI.out _).mono ?_
          rintro e w' ⟨rfl, rfl⟩
          go_wp2
          go_ret
          exact ⟨by rw [HR.out]; rfl, rfl⟩
        · have HOK := Lib.hid (show letterB (chr s i) = true ∨ otherB (chr s i) = true from .inr (by rw [← HC.out]; rfl))
          clear hLB hLB2 c1
          go_wp2_with fail
          refine (HSI.out _).mono ?_
          rintro e w' ⟨rfl, rfl⟩
          go_wp2
          go_roundg (n - (i + 1))
          case measure => have := HD.out; omega
          case rel => exact ⟨i + 1, HD.out, rfl, rfl, rfl, all_succ HA.out HOK.out⟩
        · have HR := Lib.hid (nameB_at (s := s) (i := i) (by have := HNN.out; have := HD.out; omega) (by rw [← HC.out]; exact hLB.symm) (by rw [← HC.out]; exact decide_eq_false (by omega)))
          have g1 : ¬ (c : Int) < 48 := by omega
          have g3 : decide (c < 48) = false := decide_eq_false (by omega)
          have g2 : (57 : Int) < (c : Int) := by omega
          have g4 : decide (57 < c) = true := decide_eq_true (by omega)
          have g5 : ((c : Int) != 95) = true := bneT (by omega)
          have g6 : ((c : Int) != 46) = true := bneT (by omega)
          have g7 : (c != 95) = true := by simp; omega
          have g8 : (c != 46) = true := by simp; omega
          clear hLB hLB2 c1 c2
          go_wp2_with fail
          refine (HSI.out _).mono ?_
          rintro e w' ⟨rfl, rfl⟩
          go_wp2
          go_ret
          exact ⟨by rw [HR.out]; rfl, rfl⟩
      · obtain rfl : n = i := by omega
        have HR := Lib.hid (nameB_yes (s := s) ⟨HN.out, HL.out⟩ (by rw [← HNN.out]; exact HA.out))
        clear hd
        go_wp2
        go_ret
        exact ⟨by rw [HR.out]; rfl, rfl⟩
end Go.Proofs.Ytiiibhdohlpodaa

-- A2
namespace Go.Proofs.Ytiiibhdohlpodaa
open Go.RowKit
attribute [local go_sem ↓] Go.wp_at_zero Go.wp_at_succ

set_option maxHeartbeats 4000000 in
theorem isValue_any (s : ByteArray) (w : World) (hs : s.size ≤ 9223372036854775807) :
    Calls Try.prog 66 #[.string s] w fun e w' => e = .returned (.bool (valueB s)) ∧ w = w' := by
  have hS : ∀ i, i < s.size → ∀ w, (Instr.index 9 (.string s) (.int .i64 (i : Int))).run Try.prog w = .ok (.int .u8 (chr s i : Int)) w := fun i hi w => run_chr Try.underlying9 s i hi w
  obtain ⟨n, hn⟩ : ∃ n, n = s.size := ⟨_, rfl⟩
  by_cases h0 : s.size = 0
  · have HR := Lib.hid (valueB_no (s := s) (by omega))
    have q : ((s.size : Int) == 0) = true := by simp [h0]
    have q' : (s.size == 0) = true := by simp [h0]
    clear hS h0 hn
    go_enter Try.func66, Try.ntmps66
    go_wp2
    go_ret
    exact ⟨by rw [HR.out]; rfl, rfl⟩
  have q : ((s.size : Int) == 0) = false := by simp [h0]
  have q' : (s.size == 0) = false := by simp [h0]
  by_cases h1 : 32 < s.size
  · have HR := Lib.hid (valueB_no (s := s) (by omega))
    have q1 : (32 : Int) < (s.size : Int) := by omega
    have q2 : decide (32 < s.size) = true := decide_eq_true h1
    clear hS h0 hn
    go_enter Try.func66, Try.ntmps66
    go_wp2
    go_ret
    exact ⟨by rw [HR.out]; rfl, rfl⟩
  have q1 : ¬ (32 : Int) < (s.size : Int) := by omega
  have q2 : decide (32 < s.size) = false := decide_eq_false h1
  have HS := Lib.hid hS
  have HN := Lib.hid (show 1 ≤ s.size ∧ s.size ≤ 32 from ⟨by omega, by omega⟩)
  have HNN := Lib.hid hn
  clear hS h0 h1
  go_enter Try.func66, Try.ntmps66
  go_wp2
  rw [← hn]
  clear hs q q' q1 q2 hn
  go_loopg [15] n (fun g s15 wr => ∃ i : Nat, i ≤ n ∧ g = n - i ∧ s15 = .int .i64 i ∧ w = wr ∧ ∀ j, j < i → okV (chr s j) = true)
  case atStart => exact ⟨0, Nat.zero_le _, rfl, rfl, rfl, fun j hj => by omega⟩
  case round =>
    obtain ⟨i, hin, rfl, rfl, rfl, ha⟩ := hrel
    have HA := Lib.hid ha
    clear ha
    by_cases hd : i < n
    · have hdi : (i : Int) < (n : Int) := by omega
      have HD := Lib.hid hd
      have wi : IntKind.i64.wrap ((i : Int) + 1) = ((i + 1 : Nat) : Int) := by rw [IntWalk.i64_in _ ⟨by omega, by have := HN.out; have := HNN.out; omega⟩]; omega
      have hix := HS.out i (by have := HNN.out; omega)
      have hlt := chr_lt s i
      obtain ⟨c, hc⟩ : ∃ c, c = chr s i := ⟨_, rfl⟩
      rw [← hc] at hix hlt
      have HC := Lib.hid hc
      clear hd hin hc
      have hcase : c ≤ 32 ∨ 126 < c ∨ c = 61 ∨ c = 59 ∨ c = 44 ∨ (33 ≤ c ∧ c ≤ 126 ∧ c ≠ 61 ∧ c ≠ 59 ∧ c ≠ 44) := by omega
      rcases hcase with hc | hc | rfl | rfl | rfl | hc
      · have g1 : (c : Int) < 33 := by omega
        have g2 : decide (c < 33) = true := decide_eq_true (by omega)
        have HR := Lib.hid (valueB_at (s := s) (i := i) (by have := HNN.out; have := HD.out; omega) (by rw [← HC.out]; exact decide_eq_false (by omega)))
        clear hc
        go_wp2
        all_goals
          go_ret
          exact ⟨by rw [HR.out]; rfl, rfl⟩
      · have g3 : ¬ (c : Int) < 33 := by omega
        have g4 : decide (c < 33) = false := decide_eq_false (by omega)
        have g5 : (126 : Int) < (c : Int) := by omega
        have g6 : decide (126 < c) = true := decide_eq_true (by omega)
        have HR := Lib.hid (valueB_at (s := s) (i := i) (by have := HNN.out; have := HD.out; omega) (by rw [← HC.out]; exact decide_eq_false (by omega)))
        clear hc
        go_wp2
        all_goals
          go_ret
          exact ⟨by rw [HR.out]; rfl, rfl⟩
      · have HR := Lib.hid (valueB_at (s := s) (i := i) (by have := HNN.out; have := HD.out; omega) (by rw [← HC.out]; rfl))
        go_wp2
        all_goals
          go_ret
          exact ⟨by rw [HR.out]; rfl, rfl⟩
      · have HR := Lib.hid (valueB_at (s := s) (i := i) (by have := HNN.out; have := HD.out; omega) (by rw [← HC.out]; rfl))
        go_wp2
        all_goals
          go_ret
          exact ⟨by rw [HR.out]; rfl, rfl⟩
      · have HR := Lib.hid (valueB_at (s := s) (i := i) (by have := HNN.out; have := HD.out; omega) (by rw [← HC.out]; rfl))
        go_wp2
        all_goals
          go_ret
          exact ⟨by rw [HR.out]; rfl, rfl⟩
      · have g7 : ¬ (c : Int) < 33 := by omega
        have g8 : decide (c < 33) = false := decide_eq_false (by omega)
        have g9 : ¬ (126 : Int) < (c : Int) := by omega
        have g10 : decide (126 < c) = false := decide_eq_false (by omega)
        have g11 : ((c : Int) == 61) = false := beqF (by omega)
        have g12 : (c == 61) = false := by simp; omega
        have g13 : ((c : Int) == 59) = false := beqF (by omega)
        have g14 : (c == 59) = false := by simp; omega
        have g15 : ((c : Int) == 44) = false := beqF (by omega)
        have g16 : (c == 44) = false := by simp; omega
        have HOK := Lib.hid (show okV (chr s i) = true from by rw [← HC.out]; exact decide_eq_true (by omega))
        clear hc
        go_wp2
        go_roundg (n - (i + 1))
        case measure => have := HD.out; omega
        case rel => exact ⟨i + 1, HD.out, rfl, rfl, rfl, all_succ HA.out HOK.out⟩
    · obtain rfl : n = i := by omega
      have HR := Lib.hid (valueB_yes (s := s) HN.out (by rw [← HNN.out]; exact HA.out))
      clear hd
      go_wp2
      go_ret
      exact ⟨by rw [HR.out]; rfl, rfl⟩

end Go.Proofs.Ytiiibhdohlpodaa

-- G2
namespace Go.Proofs.Ytiiibhdohlpodaa
open Go

section
variable {P : Program} {ops : Array Oper} {Q : Exit → Act → World → Prop} {md : Region.Mode} {S : World → Prop} {k : Nat}

/-- In whatever order the rest comes; S holds behind each but number k. -/
def AnyBut (P : Program) (md : Region.Mode) (ops : Array Oper) (Q : Exit → Act → World → Prop) (S : World → Prop) (k : Nat) : Nat → Array Bool → Act → World → Prop
  | 0, listed, a, w => Region.ready md ops listed = [] ∧ Q .normal a w
  | n + 1, listed, a, w =>
    (Region.ready md ops listed = [] → Q .normal a w) ∧
    ∀ i ∈ Region.ready md ops listed, wpOp P ops Q i (fun a' w' => (i ≠ k → S w') ∧ AnyBut P md ops Q S k n (listed.setIfInBounds i true) a' w') a w

theorem AnyBut.any : ∀ (n : Nat) (listed : Array Bool) (a : Act) (w : World), AnyBut P md ops Q S k n listed a w → wpAny P md ops Q n listed a w
  | 0, _, _, _, h => h
  | n + 1, _, _, _, h => ⟨h.1, fun i hi => wpOp_mono (fun _ _ x => AnyBut.any n _ _ _ x.2) (h.2 i hi)⟩

theorem listed_of_wait {i : Nat} {listed : Array Bool} (hk : Region.waitsFor md ops k i = true) (hr : k ∈ Region.ready md ops listed) : i ∉ Region.ready md ops listed := by
  intro hi
  obtain ⟨ok, hok, e, he, hb, rfl⟩ := Region.waitsFor_spec hk
  obtain ⟨_, ok', hok', hall⟩ := mem_ready.1 hr
  rw [hok] at hok'
  injection hok' with hok'
  subst hok'
  have h1 := hall e he hb
  have h0 := (mem_ready.1 hi).1
  by_cases hs : e.on < listed.size
  · simp [hs] at h0 h1
    rw [h0] at h1; cases h1
  · simp [Array.getElem?_eq_none (Nat.le_of_not_lt hs)] at h1

theorem AnyBut.first {i : Nat} {oi : Oper} {v : Value} (hi : ops[i]? = some oi) (hs : Region.noSelect ops = true) (hk : Region.waitsFor md ops k i = true)
    (hQ : ∀ c a w, Q (.panic c) (a.put oi.dst v) w → Q (.panic c) a w) :
    ∀ (n : Nat) (listed : Array Bool) (a : Act) (w : World), Region.free md ops listed i = true →
      i ∈ Region.ready md ops listed → YieldsIf P ops S oi v a → S w →
      AnyBut P md ops Q S k n (listed.setIfInBounds i true) (a.put oi.dst v) w → AnyBut P md ops Q S k (n + 1) listed a w := by
  intro n listed a w hf
  have hfree := Region.free_spec hi hf
  clear hf
  induction n generalizing listed a w with
  | zero =>
    intro hr hy hS H
    refine ⟨fun h => (by rw [h] at hr; cases hr), fun j hj => ?_⟩
    by_cases hji : j = i
    · subst hji; exact hy.wpOp hi hS ⟨fun _ => hS, H⟩
    · have := ready_mono hj hji
      rw [H.1] at this
      cases this
  | succ n ih =>
    intro hr hy hS H
    refine ⟨fun h => (by rw [h] at hr; cases hr), fun j hj => ?_⟩
    by_cases hji : j = i
    · subst hji; exact hy.wpOp hi hS ⟨fun _ => hS, H⟩
    have hjk : j ≠ k := fun e => by subst e; exact listed_of_wait hk hj hr
    obtain ⟨hjun, oj, hoj, _⟩ := mem_ready.1 hj
    have hnot : ∀ e ∈ oj.after, Region.binds md e = true → e.on ≠ i := fun e he hb heq => by
      have : Region.waitsFor md ops j i = true := by
        unfold Region.waitsFor
        rw [hoj]
        exact Array.any_eq_true'.2 ⟨e, he, by simp [hb, heq]⟩
      exact listed_of_wait this hj hr
    have hstep := wpOp_putIf hoj (hfree j oj hoj hji hjun hnot) (Region.noSelect_spec hs i oi · · hi) (Region.noSelect_spec hs j oj · · hoj) hQ hy (H.2 j (ready_mono hj hji))
    refine wpOp_mono (fun a' w' h3 => ⟨fun _ => h3.2.1 hjk, ih _ a' w' (fun m om hm hmi hun hno => ?_) (ready_mono hr (Ne.symm hji)) h3.1 (h3.2.1 hjk) ?_⟩) hstep
    · refine hfree m om hm hmi ?_ hno
      by_cases hjm : j = m
      · subst hjm; exact hjun
      · rw [getD_set_ne true hjm] at hun; exact hun
    · rw [Array.setIfInBounds_comm _ _ hji]
      exact h3.2.2

theorem AnyBut.take {i : Nat} {oi : Oper} {v : Value} {n : Nat} {listed : Array Bool} {a : Act} {w : World} (hi : ops[i]? = some oi)
    (hs : Region.noSelect ops = true) (hk : Region.waitsFor md ops k i = true) (hf : Region.free md ops listed i = true) (hr : (Region.ready md ops listed).contains i = true)
    (hQ : ∀ c a w, Q (.panic c) (a.put oi.dst v) w → Q (.panic c) a w) (hS : S w) (hy : YieldsIf P ops S oi v a)
    (h : AnyBut P md ops Q S k n (listed.setIfInBounds i true) (a.put oi.dst v) w) : AnyBut P md ops Q S k (n + 1) listed a w :=
  AnyBut.first hi hs hk hQ n listed a w hf (by simpa using hr) hy hS h

/-- The one operation that may come up now, that is not the last one. -/
theorem AnyBut.one {i : Nat} {o : Oper} {n : Nat} {listed : Array Bool} {a : Act} {w : World} (hr : Region.ready md ops listed = [i]) (ho : ops[i]? = some o)
    (h : ∀ K' : Act → World → Prop, Shut (∀ a w, S w → AnyBut P md ops Q S k n (listed.setIfInBounds i true) a w → K' a w) → if Region.wanted o (yielded ops a.tmps) = true then Oper.wp P o a w K' Q else K' (a.put o.dst undef) w) :
    AnyBut P md ops Q S k (n + 1) listed a w :=
  ⟨fun h0 => (by rw [hr] at h0; cases h0), fun j hj => by
    rw [hr] at hj
    obtain rfl := List.mem_singleton.1 hj
    exact wpOp_step ho (fun K' hK => h K' (fun a w hS hW => hK a w ⟨fun _ => hS, hW⟩))⟩

/-- The last one: behind it there is nothing left. -/
theorem AnyBut.last {o : Oper} {n : Nat} {listed : Array Bool} {a : Act} {w : World} (hr : Region.ready md ops listed = [k]) (ho : ops[k]? = some o) (hend : Region.ready md ops (listed.setIfInBounds k true) = [])
    (h : ∀ K' : Act → World → Prop, Shut (∀ a w, Q .normal a w → K' a w) → if Region.wanted o (yielded ops a.tmps) = true then Oper.wp P o a w K' Q else K' (a.put o.dst undef) w) :
    AnyBut P md ops Q S k (n + 1) listed a w :=
  ⟨fun h0 => (by rw [hr] at h0; cases h0), fun j hj => by
    rw [hr] at hj
    obtain rfl := List.mem_singleton.1 hj
    refine wpOp_step ho (fun K' hK => h K' (fun a w hQ => hK a w ⟨fun e => absurd rfl e, ?_⟩))
    cases n with
    | zero => exact ⟨hend, hQ⟩
    | succ n => exact ⟨fun _ => hQ, by rw [hend]; intro i hi; cases hi⟩⟩

/-- The beginning. -/
theorem AnyBut.start {id : Nat} {a : Act} {w : World} (hm : P.follows .mixedOrders = true)
    (h : AnyBut P .any ops Q S k ops.size (Array.replicate ops.size false) a w.drew) : (Code.region id ops true).wp P Q a w :=
  wp_region_any hm (AnyBut.any _ _ _ _ h)
end
end Go.Proofs.Ytiiibhdohlpodaa

-- G3
namespace Go.Proofs.Ytiiibhdohlpodaa
open Go
section
variable {P : Program} {ops : Array Oper} {Q : Exit → Act → World → Prop} {md : Region.Mode} {S : World → Prop} {k : Nat}
theorem AnyBut.two {i j : Nat} {oi oj : Oper} {n : Nat} {listed : Array Bool} {a : Act} {w : World} (hr : Region.ready md ops listed = [i, j]) (hoi : ops[i]? = some oi) (hoj : ops[j]? = some oj)
    (h1 : ∀ K' : Act → World → Prop, Shut (∀ a w, S w → AnyBut P md ops Q S k n (listed.setIfInBounds i true) a w → K' a w) → if Region.wanted oi (yielded ops a.tmps) = true then Oper.wp P oi a w K' Q else K' (a.put oi.dst undef) w)
    (h2 : ∀ K' : Act → World → Prop, Shut (∀ a w, S w → AnyBut P md ops Q S k n (listed.setIfInBounds j true) a w → K' a w) → if Region.wanted oj (yielded ops a.tmps) = true then Oper.wp P oj a w K' Q else K' (a.put oj.dst undef) w) :
    AnyBut P md ops Q S k (n + 1) listed a w :=
  ⟨fun h0 => (by rw [hr] at h0; cases h0), fun m hm => by
    rw [hr] at hm
    rcases List.mem_cons.1 hm with rfl | hm
    · exact wpOp_step hoi (fun K' hK => h1 K' (fun a w hS hW => hK a w ⟨fun _ => hS, hW⟩))
    · obtain rfl := List.mem_singleton.1 hm
      exact wpOp_step hoj (fun K' hK => h2 K' (fun a w hS hW => hK a w ⟨fun _ => hS, hW⟩))⟩
theorem AnyBut.three {i j m : Nat} {oi oj om : Oper} {n : Nat} {listed : Array Bool} {a : Act} {w : World} (hr : Region.ready md ops listed = [i, j, m]) (hoi : ops[i]? = some oi) (hoj : ops[j]? = some oj) (hom : ops[m]? = some om)
    (h1 : ∀ K' : Act → World → Prop, Shut (∀ a w, S w → AnyBut P md ops Q S k n (listed.setIfInBounds i true) a w → K' a w) → if Region.wanted oi (yielded ops a.tmps) = true then Oper.wp P oi a w K' Q else K' (a.put oi.dst undef) w)
    (h2 : ∀ K' : Act → World → Prop, Shut (∀ a w, S w → AnyBut P md ops Q S k n (listed.setIfInBounds j true) a w → K' a w) → if Region.wanted oj (yielded ops a.tmps) = true then Oper.wp P oj a w K' Q else K' (a.put oj.dst undef) w)
    (h3 : ∀ K' : Act → World → Prop, Shut (∀ a w, S w → AnyBut P md ops Q S k n (listed.setIfInBounds m true) a w → K' a w) → if Region.wanted om (yielded ops a.tmps) = true then Oper.wp P om a w K' Q else K' (a.put om.dst undef) w) :
    AnyBut P md ops Q S k (n + 1) listed a w :=
  ⟨fun h0 => (by rw [hr] at h0; cases h0), fun x hx => by
    rw [hr] at hx
    rcases List.mem_cons.1 hx with rfl | hx
    · exact wpOp_step hoi (fun K' hK => h1 K' (fun a w hS hW => hK a w ⟨fun _ => hS, hW⟩))
    · rcases List.mem_cons.1 hx with rfl | hx
      · exact wpOp_step hoj (fun K' hK => h2 K' (fun a w hS hW => hK a w ⟨fun _ => hS, hW⟩))
      · obtain rfl := List.mem_singleton.1 hx
        exact wpOp_step hom (fun K' hK => h3 K' (fun a w hS hW => hK a w ⟨fun _ => hS, hW⟩))⟩
/-- S holds behind every one (k is none of them). -/
theorem AnyBut.firstS {i : Nat} {oi : Oper} {v : Value} (hi : ops[i]? = some oi) (hs : Region.noSelect ops = true) (hk : ops.size ≤ k)
    (hQ : ∀ c a w, Q (.panic c) (a.put oi.dst v) w → Q (.panic c) a w) :
    ∀ (n : Nat) (listed : Array Bool) (a : Act) (w : World), Region.free md ops listed i = true →
      i ∈ Region.ready md ops listed → YieldsIf P ops S oi v a → S w →
      AnyBut P md ops Q S k n (listed.setIfInBounds i true) (a.put oi.dst v) w → AnyBut P md ops Q S k (n + 1) listed a w := by
  intro n listed a w hf
  have hfree := Region.free_spec hi hf
  clear hf
  induction n generalizing listed a w with
  | zero =>
    intro hr hy hS H
    refine ⟨fun h => (by rw [h] at hr; cases hr), fun j hj => ?_⟩
    by_cases hji : j = i
    · subst hji; exact hy.wpOp hi hS ⟨fun _ => hS, H⟩
    · have := ready_mono hj hji
      rw [H.1] at this
      cases this
  | succ n ih =>
    intro hr hy hS H
    refine ⟨fun h => (by rw [h] at hr; cases hr), fun j hj => ?_⟩
    by_cases hji : j = i
    · subst hji; exact hy.wpOp hi hS ⟨fun _ => hS, H⟩
    obtain ⟨hjun, oj, hoj, _⟩ := mem_ready.1 hj
    have hjk : j ≠ k := fun e => by have := (Array.getElem?_eq_some_iff.1 hoj).1; omega
    have hnot : ∀ e ∈ oj.after, Region.binds md e = true → e.on ≠ i := fun e he hb heq => by
      have : Region.waitsFor md ops j i = true := by
        unfold Region.waitsFor
        rw [hoj]
        exact Array.any_eq_true'.2 ⟨e, he, by simp [hb, heq]⟩
      exact listed_of_wait this hj hr
    have hstep := wpOp_putIf hoj (hfree j oj hoj hji hjun hnot) (Region.noSelect_spec hs i oi · · hi) (Region.noSelect_spec hs j oj · · hoj) hQ hy (H.2 j (ready_mono hj hji))
    refine wpOp_mono (fun a' w' h3 => ⟨fun _ => h3.2.1 hjk, ih _ a' w' (fun m om hm hmi hun hno => ?_) (ready_mono hr (Ne.symm hji)) h3.1 (h3.2.1 hjk) ?_⟩) hstep
    · refine hfree m om hm hmi ?_ hno
      by_cases hjm : j = m
      · subst hjm; exact hjun
      · rw [getD_set_ne true hjm] at hun; exact hun
    · rw [Array.setIfInBounds_comm _ _ hji]
      exact h3.2.2
theorem AnyBut.takeS {i : Nat} {oi : Oper} {v : Value} {n : Nat} {listed : Array Bool} {a : Act} {w : World} (hi : ops[i]? = some oi)
    (hs : Region.noSelect ops = true) (hk : ops.size ≤ k) (hf : Region.free md ops listed i = true) (hr : (Region.ready md ops listed).contains i = true)
    (hQ : ∀ c a w, Q (.panic c) (a.put oi.dst v) w → Q (.panic c) a w) (hS : S w) (hy : YieldsIf P ops S oi v a)
    (h : AnyBut P md ops Q S k n (listed.setIfInBounds i true) (a.put oi.dst v) w) : AnyBut P md ops Q S k (n + 1) listed a w :=
  AnyBut.firstS hi hs hk hQ n listed a w hf (by simpa using hr) hy hS h
/-- Nothing is left. -/
theorem AnyBut.done {n : Nat} {listed : Array Bool} {a : Act} {w : World} (hr : Region.ready md ops listed = []) (h : Q .normal a w) : AnyBut P md ops Q S k n listed a w := by
  cases n with
  | zero => exact ⟨hr, h⟩
  | succ n => exact ⟨fun _ => h, by rw [hr]; intro i hi; cases hi⟩
end
end Go.Proofs.Ytiiibhdohlpodaa

-- A3
namespace Go.Proofs.Ytiiibhdohlpodaa
open Go.RowKit
attribute [local go_sem ↓] Go.wp_at_zero Go.wp_at_succ

/-- An attribute. -/
structure Pr where
  k : ByteArray
  v : ByteArray
/-- An attribute lies at a place. -/
structure PElt (W : World) (g o : Nat) (p : Pr) : Prop where
  c0 : W.cell? ⟨g, o, none⟩ = some (.string p.k)
  c1 : W.cell? ⟨g, o + 1, none⟩ = some (.string p.v)
theorem PElt.keptS {S : Nat → Prop} {W w : World} {g o : Nat} {p : Pr} (h : PElt W g o p) (k : Kept S W w) (hn : ¬ S g) : PElt w g o p := ⟨k.cell h.c0 hn, k.cell h.c1 hn⟩
/-- Attributes lie in a row. -/
def PsAt (W : World) (ao : Option Addr) (L : List Pr) : Prop := 0 < L.length → ∃ g o, ao = some ⟨g, o, none⟩ ∧ ∀ i p, L[i]? = some p → PElt W g (o + i * 2) p
theorem PsAt.keptS {S : Nat → Prop} {W w : World} {ao : Option Addr} {L : List Pr} (h : PsAt W ao L) (k : Kept S W w) (hn : ∀ a, ao = some a → 0 < L.length → ¬ S a.block) : PsAt w ao L := by
  intro h0
  obtain ⟨g, o, e, hr⟩ := h h0
  exact ⟨g, o, e, fun i p hi => (hr i p hi).keptS k (hn _ e h0)⟩
theorem PsAt.kept {W w : World} {ao : Option Addr} {L : List Pr} (h : PsAt W ao L) (k : Kept (fun _ => False) W w) : PsAt w ao L := h.keptS k (fun _ _ _ x => x)
theorem PsAt.take {W : World} {ao : Option Addr} {L : List Pr} (h : PsAt W ao L) (n : Nat) : PsAt W ao (L.take n) := by
  intro h0
  obtain ⟨g, o, e, hr⟩ := h (by rw [List.length_take] at h0; omega)
  refine ⟨g, o, e, fun i p hi => hr i p ?_⟩
  rw [List.getElem?_take] at hi
  split at hi
  · exact hi
  · cases hi
/-- No text is longer than the machine's numbers, and none of a list. -/
def Sh (n : Nat) (L : List Pr) : Prop := ∀ p ∈ L, p.k.size ≤ n ∧ p.v.size ≤ n

/-- Few and short. -/
def lightL (L : List Pr) : Bool := decide (L.length ≤ 20 ∧ ∀ i, i < L.length → ((L.getD i ⟨ByteArray.empty, ByteArray.empty⟩).k.size ≤ 100 ∧ (L.getD i ⟨ByteArray.empty, ByteArray.empty⟩).v.size ≤ 100))
theorem getD_pr {L : List Pr} {i : Nat} {p : Pr} (h : L[i]? = some p) (d : Pr) : L.getD i d = p := by rw [List.getD_eq_getElem?_getD, h]; rfl
theorem lightL_true {L : List Pr} (h : lightL L = true) : L.length ≤ 20 ∧ Sh 100 L := by
  have h := of_decide_eq_true h
  refine ⟨h.1, fun p hp => ?_⟩
  obtain ⟨i, hi, rfl⟩ := List.getElem_of_mem hp
  have := h.2 i hi
  rw [getD_pr (List.getElem?_eq_getElem hi)] at this
  exact this

set_option maxHeartbeats 2000000 in
theorem refLight11_any (ao : Option Addr) (c : Nat) (L : List Pr) (w : World) (hr : PsAt w ao L) (hl : L.length ≤ 9223372036854775807) :
    Calls Try.prog 47 #[.slice ao L.length c] w fun e w' => e = .returned (.bool (lightL L)) ∧ w = w' := by
  by_cases h1 : 20 < L.length
  · have HF : Hid (lightL L = false) := Lib.hid (decide_eq_false (by omega))
    have q1 : (20 : Int) < (L.length : Int) := by omega
    have q2 : decide (20 < L.length) = true := decide_eq_true h1
    go_enter Try.func47, Try.ntmps47
    go_wp2
    go_ret
    exact ⟨by rw [HF.out]; rfl, rfl⟩
  · have q1 : ¬ (20 : Int) < (L.length : Int) := by omega
    have q2 : decide (20 < L.length) = false := decide_eq_false h1
    have HR := Lib.hid hr
    have HL := Lib.hid h1
    obtain ⟨n, hn⟩ : ∃ n, n = L.length := ⟨_, rfl⟩
    have HN := Lib.hid hn
    rw [← hn] at q1 q2 ⊢
    clear hr hl h1 hn
    go_enter Try.func47, Try.ntmps47
    go_wp2
    go_loopg [3] n (fun g s3 wr => ∃ i : Nat, i ≤ n ∧ g = n - i ∧ s3 = .int .i64 i ∧ w = wr ∧ ∀ j, j < i → ((L.getD j ⟨ByteArray.empty, ByteArray.empty⟩).k.size ≤ 100 ∧ (L.getD j ⟨ByteArray.empty, ByteArray.empty⟩).v.size ≤ 100))
    case atStart => exact ⟨0, Nat.zero_le _, rfl, rfl, rfl, fun j hj => by omega⟩
    case round =>
      obtain ⟨i, hin, rfl, rfl, rfl, ha⟩ := hrel
      have HA := Lib.hid ha
      clear ha
      by_cases hd : i < n
      · have hdi : (i : Int) < (n : Int) := by omega
        have hi0 : (0 : Int) ≤ (i : Int) := by omega
        have HD := Lib.hid hd
        have wi : IntKind.i64.wrap ((i : Int) + 1) = ((i + 1 : Nat) : Int) := by rw [IntWalk.i64_in _ ⟨by omega, by have := HL.out; have := HN.out; omega⟩]; omega
        have hiL : i < L.length := by have := HN.out; omega
        obtain ⟨gb, ob, rfl, hrec⟩ := HR.out (by omega)
        have hel := hrec i L[i] (List.getElem?_eq_getElem hiL)
        have hgd := getD_pr (List.getElem?_eq_getElem hiL) ⟨ByteArray.empty, ByteArray.empty⟩
        obtain ⟨P, hP⟩ : ∃ p, p = L[i] := ⟨_, rfl⟩
        rw [← hP] at hel hgd
        obtain ⟨x0, x1⟩ := hel
        clear hd hin hrec hP
        by_cases hk : P.k.size ≤ 100
        · have k1 : ¬ (100 : Int) < (P.k.size : Int) := by omega
          have k2 : decide (100 < P.k.size) = false := decide_eq_false (by omega)
          by_cases hv : P.v.size ≤ 100
          · have k3 : ¬ (100 : Int) < (P.v.size : Int) := by omega
            have k4 : decide (100 < P.v.size) = false := decide_eq_false (by omega)
            have HOK := Lib.hid (show (L.getD i ⟨ByteArray.empty, ByteArray.empty⟩).k.size ≤ 100 ∧ (L.getD i ⟨ByteArray.empty, ByteArray.empty⟩).v.size ≤ 100 by rw [hgd]; exact ⟨hk, hv⟩)
            clear hk hv hgd
            go_wp2
            go_roundg (n - (i + 1))
            case measure => have := HD.out; omega
            case rel => exact ⟨i + 1, HD.out, rfl, rfl, rfl, all_succ HA.out HOK.out⟩
          · have k3 : (100 : Int) < (P.v.size : Int) := by omega
            have k4 : decide (100 < P.v.size) = true := decide_eq_true (by omega)
            have HF : Hid (lightL L = false) := Lib.hid (decide_eq_false (fun e => by have h := (e.2 i hiL).2; rw [hgd] at h; omega))
            clear hk hv hgd hiL
            go_wp2
            go_ret
            exact ⟨by rw [HF.out]; rfl, rfl⟩
        · have k1 : (100 : Int) < (P.k.size : Int) := by omega
          have k2 : decide (100 < P.k.size) = true := decide_eq_true (by omega)
          have HF : Hid (lightL L = false) := Lib.hid (decide_eq_false (fun e => by have h := (e.2 i hiL).1; rw [hgd] at h; omega))
          clear hk hgd hiL
          go_wp2
          go_ret
          exact ⟨by rw [HF.out]; rfl, rfl⟩
      · obtain rfl : n = i := by omega
        have HF : Hid (lightL L = true) := Lib.hid (decide_eq_true ⟨by have := HL.out; omega, by rw [← HN.out]; exact HA.out⟩)
        clear hd
        go_wp2
        go_ret
        exact ⟨by rw [HF.out]; rfl, rfl⟩

/-- Are two attributes one? -/
def eqP (a b : Pr) : Bool := (a.k.toList == b.k.toList) && (a.v.toList == b.v.toList)
theorem bytes_eq {a b : ByteArray} (h : a.toList = b.toList) : a = b := by
  cases a; cases b
  rw [ByteArray.toList_eq, ByteArray.toList_eq] at h
  simp only at h
  rw [Array.toList_inj.1 h]
theorem beq_bytes (a b : ByteArray) : (a.toList == b.toList) = decide (a = b) := by
  by_cases h : a = b
  · rw [h, decide_eq_true rfl]; exact beq_iff_eq.2 rfl
  · rw [decide_eq_false h]; exact beq_eq_false_iff_ne.2 (fun e => h (bytes_eq e))
theorem eqP_iff (a b : Pr) : eqP a b = true ↔ a = b := by
  unfold eqP
  rw [beq_bytes, beq_bytes]
  cases a; cases b
  simp
/-- has's function. -/
theorem hasFn_any (kb : Nat) (key : ByteArray) (p : Pr) (w : World) (hk : w.cell? ⟨kb, 0, none⟩ = some (.string key)) :
    Calls Try.prog 90 #[.agg #[.string p.k, .string p.v], .pointer (some ⟨kb, 0, none⟩)] w fun e w' => e = .returned (.bool (p.k.toList == key.toList)) ∧ Kept (fun _ => False) w w' := by
  have ha := fun o => ((Kept.refl (fun _ => False) w).alloc o).cell hk (fun x => x)
  go_enter Try.func90, Try.ntmps90
  go_wp2
  go_ret
  exact ⟨rfl, (Kept.refl _ _).alloc _⟩
end Go.Proofs.Ytiiibhdohlpodaa

-- A4
namespace Go.Proofs.Ytiiibhdohlpodaa
open Go.RowKit
attribute [local go_sem ↓] Go.wp_at_zero Go.wp_at_succ

/-- Has some attribute the key? -/
def hasB (L : List Pr) (key : ByteArray) : Bool := L.any fun p => p.k.toList == key.toList
theorem any_take_succ {p : Pr → Bool} {L : List Pr} {i : Nat} {x : Pr} (h : L[i]? = some x) : (L.take (i + 1)).any p = ((L.take i).any p || p x) := by
  rw [List.take_add_one, h]
  simp
/-- A function of attributes that tells something, in whichever world behind W. -/
structure Teller (W : World) (f : FuncId) (caps : Array Value) (p : Pr → Bool) : Prop where
  go : ∀ w x, Kept (fun _ => False) W w → Calls Try.prog f (#[.agg #[.string x.k, .string x.v]] ++ caps) w fun e w' => e = .returned (.bool (p x)) ∧ Kept (fun _ => False) w w'
  hcf : ∀ (w : World) (args : Array Value), (callFunc f args).run Try.prog w = .ok (.enter f args) w

set_option maxHeartbeats 2000000 in
theorem indexFunc_any (ao : Option Addr) (c : Nat) (L : List Pr) (f : FuncId) (caps : Array Value) (p : Pr → Bool) (w : World) (hr : PsAt w ao L) (hl : L.length ≤ 1000000) (T : Teller w f caps p) :
    Calls Try.prog 112 #[.slice ao L.length c, .func (.func f) #[] caps] w fun e w' => (∃ z : Int, e = .returned (.int .i64 z) ∧ decide (0 ≤ z) = L.any p) ∧ Kept (fun _ => False) w w' := by
  have HR := Lib.hid hr
  have HT := Lib.hid T
  have hcf := T.hcf
  have HL := Lib.hid hl
  obtain ⟨n, hn⟩ : ∃ n, n = L.length := ⟨_, rfl⟩
  have HN := Lib.hid hn
  rw [← hn]
  clear hr T hl hn
  go_enter Try.func112, Try.ntmps112
  go_wp2
  go_loopg [8] n (fun g s8 wr => ∃ i : Nat, i ≤ n ∧ g = n - i ∧ s8 = .int .i64 i ∧ (L.take i).any p = false ∧ Kept (fun _ => False) w wr)
  case atStart => exact ⟨0, Nat.zero_le _, rfl, rfl, rfl, Kept.refl _ _⟩
  case round =>
    obtain ⟨i, hin, rfl, rfl, ha, kw⟩ := hrel
    have HA := Lib.hid ha
    have HK := Lib.hid kw
    clear ha kw
    by_cases hd : i < n
    · have hdi : (i : Int) < (n : Int) := by omega
      have hi0 : (0 : Int) ≤ (i : Int) := by omega
      have HD := Lib.hid hd
      have wi : IntKind.i64.wrap ((i : Int) + 1) = ((i + 1 : Nat) : Int) := by rw [IntWalk.i64_in _ ⟨by omega, by have := HL.out; have := HN.out; omega⟩]; omega
      have hiL : i < L.length := by have := HN.out; omega
      obtain ⟨gb, ob, rfl, hrec⟩ := HR.out (by omega)
      have hel := (hrec i L[i] (List.getElem?_eq_getElem hiL)).keptS HK.out (fun x => x)
      have hts := any_take_succ (p := p) (List.getElem?_eq_getElem hiL)
      obtain ⟨P, hP⟩ : ∃ p, p = L[i] := ⟨_, rfl⟩
      rw [← hP] at hel hts
      have hmem : P ∈ L := by rw [hP]; exact List.getElem_mem _
      obtain ⟨x0, x1⟩ := hel
      rw [HA.out, Bool.false_or] at hts
      have HGO := Lib.hid (HT.out.go wr P HK.out)
      obtain ⟨b, hb⟩ : ∃ b, b = p P := ⟨_, rfl⟩
      rw [← hb] at HGO hts
      have HTS := Lib.hid hts
      have HPB := Lib.hid hb
      have HMEM := Lib.hid hmem
      clear hd hin hrec hP hiL hts hb hmem
      go_wp2_with fail
      refine HGO.out.mono ?_
      rintro e w1 ⟨rfl, k1⟩
      have HK1 := Lib.hid (HK.out.trans k1)
      clear k1
      cases b with
      | true =>
        go_wp2
        go_ret
        refine ⟨⟨i, rfl, ?_⟩, HK1.out⟩
        rw [decide_eq_true (by omega)]
        exact (List.any_eq_true.2 ⟨P, HMEM.out, HPB.out.symm⟩).symm
      | false =>
        go_wp2
        go_roundg (n - (i + 1))
        case measure => have := HD.out; omega
        case rel => exact ⟨i + 1, HD.out, rfl, rfl, HTS.out, HK1.out⟩
    · obtain rfl : n = i := by omega
      have ha := HA.out
      rw [HN.out, List.take_length] at ha
      have HA2 := Lib.hid ha
      clear hd ha
      go_wp2
      go_ret
      exact ⟨⟨-1, rfl, by rw [HA2.out]; rfl⟩, HK.out⟩
end Go.Proofs.Ytiiibhdohlpodaa

-- A5
namespace Go.Proofs.Ytiiibhdohlpodaa
open Go.RowKit
attribute [local go_sem ↓] Go.wp_at_zero Go.wp_at_succ

theorem run_cutHn {P : Program} {t E : TypeId} {i : TypeInfo} (ht : P.underlying t = some (.slice E)) (hi : P.info? E = some i) (a : Option Addr) (len cap h : Nat) (hhi : h ≤ cap) (w : World) :
    (Instr.slice t (.slice a len cap) none (some (.int .i64 (h : Int))) none).run P w = .ok (.slice a h cap) w := by
  have he : P.elem t = E := by simp [Program.elem, ht]
  rw [run_slice_h w t a len cap (by rw [he]; exact ht) .i64 h (by omega) (by omega), he]
  have e : (a.map fun x => x.add 0) = a := by cases a <;> simp [add_zero']
  simp [sizeOf, typeInfo, hi, sliced, e]
theorem run_cutHnAt {P : Program} {t E : TypeId} {i : TypeInfo} (ht : P.underlying t = some (.slice E)) (hi : P.info? E = some i) (a : Option Addr) (len cap h : Nat) (hhi : h ≤ cap) (w : World) :
    (Instr.sliceAt t (.slice a len cap) none (some (.int .i64 (h : Int))) none).run P w = .ok (.slice a h cap) w := by
  have he : P.elem t = E := by simp [Program.elem, ht]
  rw [run_sliceAt_slice w t _ _ _ _ (by rw [he]; exact ht)]
  exact run_cutHn ht hi a len cap h hhi w
theorem Try.infoPair : (Try.prog.info? 101).map (fun i => (i.zero, i.size, i.bytes)) = some (some (.agg #[.string ByteArray.empty, .string ByteArray.empty]), 2, 32) := by kernel_rfl

theorem containsFunc_any (ao : Option Addr) (c : Nat) (L : List Pr) (f : FuncId) (caps : Array Value) (p : Pr → Bool) (w : World) (hr : PsAt w ao L) (hl : L.length ≤ 1000000) (T : Teller w f caps p) :
    Calls Try.prog 89 #[.slice ao L.length c, .func (.func f) #[] caps] w fun e w' => e = .returned (.bool (L.any p)) ∧ Kept (fun _ => False) w w' := by
  have HI := Lib.hid (indexFunc_any ao c L f caps p w hr hl T)
  obtain ⟨n, hn⟩ : ∃ n, n = L.length := ⟨_, rfl⟩
  obtain ⟨b, hb⟩ : ∃ b, b = L.any p := ⟨_, rfl⟩
  rw [← hb] at HI ⊢
  rw [← hn] at HI ⊢
  clear hr hl T hn hb
  go_enter Try.func89, Try.ntmps89
  go_wp2_with fail
  refine HI.out.mono ?_
  rintro e w1 ⟨⟨z, rfl, hz⟩, k1⟩
  clear HI
  cases b with
  | true =>
    have hz2 : (0 : Int) ≤ z := of_decide_eq_true hz
    go_wp2
    go_ret
    exact ⟨rfl, k1⟩
  | false =>
    have hz2 : ¬ (0 : Int) ≤ z := of_decide_eq_false hz
    go_wp2
    go_ret
    exact ⟨rfl, k1⟩
theorem enter_has (w : World) (args : Array Value) : (callFunc 90 args).run Try.prog w = .ok (.enter 90 args) w := by
  have hb : (Try.f90).body.isSome = true := by kernel_rfl
  obtain ⟨c, hc⟩ := Option.isSome_iff_exists.1 hb
  have h1 : (Try.f90).name ≠ "runtime.NumGoroutine" := by
    have : ((Try.f90).name == "runtime.NumGoroutine") = false := by kernel_rfl
    simpa using this
  simp [callFunc, Try.func90, h1, hc]
theorem has_any (ao : Option Addr) (c : Nat) (L : List Pr) (key : ByteArray) (w : World) (hr : PsAt w ao L) (hl : L.length ≤ 1000000) :
    Calls Try.prog 67 #[.slice ao L.length c, .string key] w fun e w' => e = .returned (.bool (hasB L key)) ∧ Kept (fun _ => False) w w' := by
  obtain ⟨w1, hw1⟩ : ∃ w1, w1 = w.alloc (.cells #[.string key] 9) := ⟨_, rfl⟩
  have k1 : Kept (fun _ => False) w w1 := by rw [hw1]; exact (Kept.refl _ _).alloc _
  have hc : w1.cell? ⟨w.heap.size, 0, none⟩ = some (.string key) := by rw [hw1]; exact (cell_of_row _ _ 0 _ _ _ (heap_alloc_new w _)).trans rfl
  obtain ⟨kb, hkb⟩ : ∃ k, k = w.heap.size := ⟨_, rfl⟩
  rw [← hkb] at hc
  have T : Teller w1 90 #[.pointer (some ⟨kb, 0, none⟩)] (fun p => p.k.toList == key.toList) := ⟨fun w' x k => hasFn_any kb key x w' (k.cell hc (fun x => x)), enter_has⟩
  have HI := Lib.hid (containsFunc_any ao c L _ _ _ w1 (hr.kept k1) hl T)
  have HW := Lib.hid (And.intro hw1 hkb)
  have HK := Lib.hid k1
  obtain ⟨n, hn⟩ : ∃ n, n = L.length := ⟨_, rfl⟩
  rw [← hn] at HI ⊢
  clear hr hl T hn hw1 k1 hc hkb
  go_enter Try.func67, Try.ntmps67
  go_upto_region 1 with fail
  rw [← HW.out.1, ← HW.out.2]
  go_wp2_with fail
  refine HI.out.mono ?_
  rintro e w2 ⟨rfl, k2⟩
  go_wp2
  go_ret
  exact ⟨rfl, HK.out.trans k2⟩

/-- What is wrong with the i-th attribute. -/
def faultAt (L : List Pr) (i : Nat) : Nat :=
  if nameB (L.getD i ⟨ByteArray.empty, ByteArray.empty⟩).k = true ∧ valueB (L.getD i ⟨ByteArray.empty, ByteArray.empty⟩).v = true then (if hasB (L.take i) (L.getD i ⟨ByteArray.empty, ByteArray.empty⟩).k = true then 8 else 0) else 3
/-- The first fault of so many. -/
def faults (L : List Pr) : Nat → Nat
  | 0 => 0
  | k + 1 => if faults L k ≠ 0 then faults L k else faultAt L k
/-- What is wrong with a label. -/
def checkE (name : ByteArray) (L : List Pr) : Nat := if nameB name = true then (if 4 < L.length then 4 else faults L L.length) else 3
theorem faults_succ {L : List Pr} {i : Nat} (h : faults L i = 0) : faults L (i + 1) = faultAt L i := if_neg (fun e => e h)
theorem faults_stop {L : List Pr} {i : Nat} (h : faults L i ≠ 0) (j : Nat) : faults L (i + j) = faults L i := by
  induction j with
  | zero => rfl
  | succ j ih => rw [← Nat.add_assoc, faults, if_pos (by rw [ih]; exact h), ih]
theorem faults_at {L : List Pr} {i n : Nat} (h : faults L i = 0) (hf : faultAt L i ≠ 0) (hi : i < n) : faults L n = faultAt L i := by
  have h1 := faults_succ h
  have h2 := faults_stop (L := L) (i := i + 1) (by rw [h1]; exact hf) (n - (i + 1))
  rw [Nat.add_sub_cancel' hi] at h2
  rw [h2, h1]

set_option maxRecDepth 100000 in
set_option maxHeartbeats 4000000 in
theorem check_any (name : ByteArray) (ao : Option Addr) (c : Nat) (L : List Pr) (w : World) (hr : PsAt w ao L) (hc : L.length ≤ c) (hl : L.length ≤ 9223372036854775807) (hz : name.size ≤ 9223372036854775807) (hs : Sh 9223372036854775807 L) :
    Calls Try.prog 35 #[.string name, .slice ao L.length c] w fun e w' => e = .returned (.int .i64 ((checkE name L : Nat) : Int)) ∧ Kept (fun _ => False) w w' := by
  have HN := Lib.hid fun w => isName_any name w hz
  have HR := Lib.hid hr
  have HS := Lib.hid hs
  obtain ⟨n, hn⟩ : ∃ n, n = L.length := ⟨_, rfl⟩
  have HNN := Lib.hid hn
  have HE : Hid (checkE name L = if nameB name = true then (if 4 < n then 4 else faults L n) else 3) := Lib.hid (by unfold checkE; rw [hn])
  obtain ⟨b, hb⟩ : ∃ b, b = nameB name := ⟨_, rfl⟩
  rw [← hb] at HN HE
  rw [← hn] at hc hl ⊢
  clear hr hs hn hb hz
  cases b with
  | false =>
    have HE2 := Lib.hid (HE.out.trans (if_neg (by decide)))
    go_enter Try.func35, Try.ntmps35
    go_wp2_with fail
    refine (HN.out w).mono ?_
    rintro e w1 ⟨rfl, rfl⟩
    go_wp2
    go_ret
    exact ⟨by rw [HE2.out]; rfl, Kept.refl _ _⟩
  | true =>
    have HE2 := Lib.hid (HE.out.trans (if_pos rfl))
    by_cases h4 : 4 < n
    · have HE3 := Lib.hid (HE2.out.trans (if_pos h4))
      have q : (4 : Int) < (n : Int) := by omega
      have q2 : decide (4 < n) = true := decide_eq_true h4
      go_enter Try.func35, Try.ntmps35
      go_wp2_with fail
      refine (HN.out w).mono ?_
      rintro e w1 ⟨rfl, rfl⟩
      go_wp2
      go_ret
      exact ⟨by rw [HE3.out]; rfl, Kept.refl _ _⟩
    · have HE3 := Lib.hid (HE2.out.trans (if_neg h4))
      have q : ¬ (4 : Int) < (n : Int) := by omega
      have q2 : decide (4 < n) = false := decide_eq_false h4
      have H4 := Lib.hid h4
      have HCC := Lib.hid hc
      obtain ⟨iP, hiP, hzP0, hzP1, hzP2⟩ := info_parts Try.infoPair
      clear hc hl h4 hzP0 hzP1 hzP2
      go_enter Try.func35, Try.ntmps35
      go_wp2_with fail
      refine (HN.out w).mono ?_
      rintro e w1 ⟨rfl, rfl⟩
      go_wp2
      go_loopg [15] n (fun g s15 wr => ∃ i : Nat, i ≤ n ∧ g = n - i ∧ s15 = .int .i64 i ∧ faults L i = 0 ∧ Kept (fun _ => False) w wr)
      case atStart => exact ⟨0, Nat.zero_le _, rfl, rfl, rfl, Kept.refl _ _⟩
      case round =>
        obtain ⟨i, hin, rfl, rfl, ha, kw⟩ := hrel
        have HA := Lib.hid ha
        have HK := Lib.hid kw
        clear ha kw
        by_cases hd : i < n
        · have hdi : (i : Int) < (n : Int) := by omega
          have hi0 : (0 : Int) ≤ (i : Int) := by omega
          have HD := Lib.hid hd
          have wi : IntKind.i64.wrap ((i : Int) + 1) = ((i + 1 : Nat) : Int) := by rw [IntWalk.i64_in _ ⟨by omega, by have := H4.out; omega⟩]; omega
          have hiL : i < L.length := by have := HNN.out; omega
          obtain ⟨gb, ob, rfl, hrec⟩ := HR.out (by omega)
          have hel := (hrec i L[i] (List.getElem?_eq_getElem hiL)).keptS HK.out (fun x => x)
          have hgd := getD_pr (List.getElem?_eq_getElem hiL) ⟨ByteArray.empty, ByteArray.empty⟩
          have hmem := List.getElem_mem hiL
          have hfa : faultAt L i = faultAt L i := rfl
          unfold faultAt at hfa
          rw [hgd] at hfa
          obtain ⟨P, hP⟩ : ∃ p, p = L[i] := ⟨_, rfl⟩
          rw [← hP] at hel hmem hfa
          have hsz := HS.out P hmem
          have HNK := Lib.hid fun w => isName_any P.k w hsz.1
          have HVV := Lib.hid fun w => isValue_any P.v w hsz.2
          have hcut : ∀ w, _ := fun w => run_cutHn (P := Try.prog) Try.underlying35 hiP (some ⟨gb, ob, none⟩) n c i (by have := HCC.out; omega) w
          have hcutA : ∀ w, _ := fun w => run_cutHnAt (P := Try.prog) Try.underlying35 hiP (some ⟨gb, ob, none⟩) n c i (by have := HCC.out; omega) w
          have HHAS := Lib.hid fun w' (k : Kept (fun _ => False) w w') => has_any (some ⟨gb, ob, none⟩) c (L.take i) P.k w' ((HR.out.kept k).take i) (by rw [List.length_take]; have := HNN.out; have := H4.out; omega)
          rw [List.length_take, Nat.min_eq_left (Nat.le_of_lt hiL)] at HHAS
          obtain ⟨NB, hNB⟩ : ∃ b, b = nameB P.k := ⟨_, rfl⟩
          obtain ⟨VB, hVB⟩ : ∃ b, b = valueB P.v := ⟨_, rfl⟩
          obtain ⟨HB, hHB⟩ : ∃ b, b = hasB (L.take i) P.k := ⟨_, rfl⟩
          rw [← hNB, ← hVB, ← hHB] at hfa
          rw [← hNB] at HNK
          rw [← hVB] at HVV
          rw [← hHB] at HHAS
          obtain ⟨FA, hFA⟩ : ∃ k, k = faultAt L i := ⟨_, rfl⟩
          have HFA := Lib.hid (show faultAt L i = FA from hFA.symm)
          have hfb : FA = if NB = true ∧ VB = true then (if HB = true then 8 else 0) else 3 := by
            rw [hFA]
            unfold faultAt
            rw [hgd, ← hP, ← hNB, ← hVB, ← hHB]
          have HFB := Lib.hid hfb
          obtain ⟨kk, kv⟩ := P
          obtain ⟨x0, x1⟩ := hel
          dsimp only at x0 x1 HNK HVV HHAS
          obtain ⟨w2, hw2⟩ : ∃ w', w' = wr.alloc (.cells #[.string kk, .string kv] 101) := ⟨_, rfl⟩
          have k2 : Kept (fun _ => False) wr w2 := by rw [hw2]; exact (Kept.refl _ _).alloc _
          obtain ⟨qa, hqa⟩ : ∃ q, q = wr.heap.size := ⟨_, rfl⟩
          have hbx : w2.heap[qa]? = some (.cells #[.string kk, .string kv] 101 (0, 0)) := by rw [hw2, hqa]; exact heap_alloc_new wr _
          have y0 : w2.cell? ⟨qa, 0, none⟩ = some (.string kk) := (cell_of_row _ _ 0 _ _ _ hbx).trans rfl
          have y1 : w2.cell? ⟨qa, 1, none⟩ = some (.string kv) := (cell_of_row _ _ 1 _ _ _ hbx).trans rfl
          have HW2 := Lib.hid (And.intro hw2 hqa)
          have HK2 := Lib.hid (HK.out.trans k2)
          clear hd hin hrec hP hiL hgd hmem hfa hsz hNB hVB hHB hFA hfb hw2 k2 hqa hbx
          go_upto_region 8 with fail
          rw [← HW2.out.1, ← HW2.out.2]
          clear x0 x1
          cases NB with
          | false =>
            have HF3 := Lib.hid (HFA.out.trans (HFB.out.trans (if_neg (fun e => by cases e.1))))
            go_wp2_with fail
            refine (HNK.out _).mono ?_
            rintro e w' ⟨rfl, rfl⟩
            go_wp2
            go_ret
            exact ⟨by rw [HE3.out, faults_at HA.out (by rw [HF3.out]; decide) HD.out, HF3.out]; rfl, HK2.out⟩
          | true =>
            cases VB with
            | false =>
              have HF3 := Lib.hid (HFA.out.trans (HFB.out.trans (if_neg (fun e => by cases e.2))))
              go_wp2_with fail
              refine (HNK.out _).mono ?_
              rintro e w' ⟨rfl, rfl⟩
              go_wp2_with fail
              refine (HVV.out _).mono ?_
              rintro e w' ⟨rfl, rfl⟩
              go_wp2
              go_ret
              exact ⟨by rw [HE3.out, faults_at HA.out (by rw [HF3.out]; decide) HD.out, HF3.out]; rfl, HK2.out⟩
            | true =>
              have HF3 := Lib.hid (HFA.out.trans (HFB.out.trans (if_pos ⟨rfl, rfl⟩)))
              go_wp2_with fail
              refine (HNK.out _).mono ?_
              rintro e w' ⟨rfl, rfl⟩
              go_wp2_with fail
              refine (HVV.out _).mono ?_
              rintro e w' ⟨rfl, rfl⟩
              go_upto_region 10 with fail
              have hkd := (Kept.refl (fun _ => False) w2).drew
              have HK3 := Lib.hid (HK2.out.trans hkd)
              have HSS : Hid ((fun w' => w'.cell? ⟨qa, 0, none⟩ = some (.string kk) ∧ w'.cell? ⟨qa, 1, none⟩ = some (.string kv)) w2.drew) := Lib.hid ⟨hkd.cell y0 (fun x => x), hkd.cell y1 (fun x => x)⟩
              clear hkd y0 y1
              refine AnyBut.start (S := fun w' => w'.cell? ⟨qa, 0, none⟩ = some (.string kk) ∧ w'.cell? ⟨qa, 1, none⟩ = some (.string kv)) (k := 6) (by kernel_rfl) ?_
              refine AnyBut.takeS (i := 0) (v := ?v1) rfl (by kernel_rfl) (Nat.le_of_eq (by kernel_rfl)) (by kernel_rfl) (by kernel_rfl) (fun _ _ _ h => h) (HSS.out) (Or.inl ⟨by kernel_rfl, ?hy1⟩) ?r1
              case hy1 =>
                intro w hSw
                try dsimp only at hSw
                go_simp
                try with_reducible rfl
              try simp only [Act.put, List.getElem_toArray, List.getElem_cons_zero, List.setIfInBounds_toArray, List.set_cons_zero, List.set_cons_succ]
              refine AnyBut.takeS (i := 1) (v := ?v2) rfl (by kernel_rfl) (Nat.le_of_eq (by kernel_rfl)) (by kernel_rfl) (by kernel_rfl) (fun _ _ _ h => h) (HSS.out) (Or.inl ⟨by kernel_rfl, ?hy2⟩) ?r2
              case hy2 =>
                intro w hSw
                try dsimp only at hSw
                go_simp
                try with_reducible rfl
              try simp only [Act.put, List.getElem_toArray, List.getElem_cons_succ, List.getElem_cons_zero, List.setIfInBounds_toArray, List.set_cons_zero, List.set_cons_succ]
              refine AnyBut.takeS (i := 2) (v := ?v3) rfl (by kernel_rfl) (Nat.le_of_eq (by kernel_rfl)) (by kernel_rfl) (by kernel_rfl) (fun _ _ _ h => h) (HSS.out) (Or.inl ⟨by kernel_rfl, ?hy3⟩) ?r3
              case hy3 =>
                intro w hSw
                try dsimp only at hSw
                go_simp
                try with_reducible rfl
              try simp only [Act.put, List.getElem_toArray, List.getElem_cons_succ, List.getElem_cons_zero, List.setIfInBounds_toArray, List.set_cons_zero, List.set_cons_succ]
              refine AnyBut.takeS (i := 3) (v := ?v4) rfl (by kernel_rfl) (Nat.le_of_eq (by kernel_rfl)) (by kernel_rfl) (by kernel_rfl) (fun _ _ _ h => h) (HSS.out) (Or.inl ⟨by kernel_rfl, ?hy4⟩) ?r4
              case hy4 =>
                intro w hSw
                try dsimp only at hSw
                go_simp
                try with_reducible rfl
              try simp only [Act.put, List.getElem_toArray, List.getElem_cons_succ, List.getElem_cons_zero, List.setIfInBounds_toArray, List.set_cons_zero, List.set_cons_succ]
              refine AnyBut.takeS (i := 4) (v := ?v5) rfl (by kernel_rfl) (Nat.le_of_eq (by kernel_rfl)) (by kernel_rfl) (by kernel_rfl) (fun _ _ _ h => h) (HSS.out) (Or.inl ⟨by kernel_rfl, ?hy5⟩) ?r5
              case hy5 =>
                intro w hSw
                try dsimp only at hSw
                go_simp
                try with_reducible rfl
              try simp only [Act.put, List.getElem_toArray, List.getElem_cons_succ, List.getElem_cons_zero, List.setIfInBounds_toArray, List.set_cons_zero, List.set_cons_succ]
              refine AnyBut.one (i := 5) (by kernel_rfl) rfl (fun K hK => ?_)
              go_simp
              go_wp2_with fail
              refine (HHAS.out _ (HK3.out)).mono ?_
              rintro e w4 ⟨rfl, k4⟩
              have HK4 := Lib.hid (HK3.out.trans k4)
              have HSS4 : Hid ((fun w' => w'.cell? ⟨qa, 0, none⟩ = some (.string kk) ∧ w'.cell? ⟨qa, 1, none⟩ = some (.string kv)) w4) := Lib.hid ⟨k4.cell HSS.out.1 (fun x => x), k4.cell HSS.out.2 (fun x => x)⟩
              clear k4
              go_wp2
              refine hK.out _ _ (HSS4.out) ?_
              clear hK K
              try simp only [Act.put, List.getElem_toArray, List.getElem_cons_succ, List.getElem_cons_zero, List.setIfInBounds_toArray, List.set_cons_zero, List.set_cons_succ]
              refine AnyBut.done (by kernel_rfl) ?_
              cases HB with
              | false =>
                have HF4 := Lib.hid (HF3.out.trans (if_neg (by decide)))
                go_wp2
                go_roundg (n - (i + 1))
                case measure => have := HD.out; omega
                case rel => exact ⟨i + 1, HD.out, rfl, rfl, by rw [faults_succ HA.out]; exact HF4.out, HK4.out⟩
              | true =>
                have HF4 := Lib.hid (HF3.out.trans (if_pos rfl))
                go_wp2
                go_ret
                exact ⟨by rw [HE3.out, faults_at HA.out (by rw [HF4.out]; decide) HD.out, HF4.out]; rfl, HK4.out⟩
        · obtain rfl : n = i := by omega
          clear hd
          go_wp2
          go_ret
          exact ⟨by rw [HE3.out, HA.out]; rfl, HK.out⟩
end Go.Proofs.Ytiiibhdohlpodaa

-- A6
namespace Go.Proofs.Ytiiibhdohlpodaa
open Go.RowKit
attribute [local go_sem ↓] Go.wp_at_zero Go.wp_at_succ

end Go.Proofs.Ytiiibhdohlpodaa

-- A7
namespace Go.Proofs.Ytiiibhdohlpodaa
open Go.RowKit
attribute [local go_sem ↓] Go.wp_at_zero Go.wp_at_succ

/-- Is a text below another one? -/
def ltS (a b : ByteArray) : Bool := Op.bytesLess a.toList b.toList
theorem bytesLess_total : ∀ x y : List UInt8, (Op.bytesLess x y || x == y) = !Op.bytesLess y x
  | [], [] => rfl
  | [], _ :: _ => rfl
  | _ :: _, [] => rfl
  | a :: x, b :: y => by
    have ih := bytesLess_total x y
    unfold Op.bytesLess
    have h1 : ((a :: x) == (b :: y)) = ((a == b) && (x == y)) := rfl
    rw [h1]
    by_cases hab : a = b
    · subst hab
      have hlt : decide (a < a) = false := decide_eq_false (by exact fun h => absurd h (by simp [UInt8.lt_irrefl]))
      simp only [beq_self_eq_true, Bool.true_and, hlt, Bool.false_or]
      exact ih
    · have hb1 : (a == b) = false := beq_eq_false_iff_ne.2 hab
      have hb2 : (b == a) = false := beq_eq_false_iff_ne.2 (fun e => hab e.symm)
      simp only [hb1, hb2, Bool.false_and, Bool.or_false]
      rcases Nat.lt_trichotomy a.toNat b.toNat with h | h | h
      · have l1 : decide (a < b) = true := decide_eq_true (UInt8.lt_iff_toNat_lt.2 h)
        have l2 : decide (b < a) = false := decide_eq_false (fun e => by have := UInt8.lt_iff_toNat_lt.1 e; omega)
        rw [l1, l2]; rfl
      · exact absurd (UInt8.toNat_inj.1 h) hab
      · have l1 : decide (b < a) = true := decide_eq_true (UInt8.lt_iff_toNat_lt.2 h)
        have l2 : decide (a < b) = false := decide_eq_false (fun e => by have := UInt8.lt_iff_toNat_lt.1 e; omega)
        rw [l1, l2]; rfl
theorem gtS (a b : ByteArray) : (!(Op.bytesLess a.toList b.toList || a.toList == b.toList)) = ltS b a := by rw [bytesLess_total, Bool.not_not]; rfl
def pr0 : Pr := ⟨ByteArray.empty, ByteArray.empty⟩
/-- The place of x among the first j of A, from the right. -/
def plc (A : List Pr) (x : Pr) : Nat → Nat
  | 0 => 0
  | j + 1 => if ltS x.k (A.getD j pr0).k = true then plc A x j else j + 1
theorem plc_le (A : List Pr) (x : Pr) (j : Nat) : plc A x j ≤ j := by
  induction j with
  | zero => exact Nat.le_refl _
  | succ j ih => unfold plc; split <;> omega
/-- x put in its place. -/
def insP (A : List Pr) (x : Pr) : List Pr := A.take (plc A x A.length) ++ x :: A.drop (plc A x A.length)
/-- Attributes by rising keys. -/
def sortP (L : List Pr) : List Pr := L.foldl insP []
theorem sortP_snoc (L : List Pr) (x : Pr) : sortP (L ++ [x]) = insP (sortP L) x := by unfold sortP; rw [List.foldl_append]; rfl
theorem insP_length (A : List Pr) (x : Pr) : (insP A x).length = A.length + 1 := by
  unfold insP
  have := plc_le A x A.length
  rw [List.length_append, List.length_take, List.length_cons, List.length_drop]
  omega
theorem sortP_length (L : List Pr) : (sortP L).length = L.length := by
  have key : ∀ (L A : List Pr), (L.foldl insP A).length = A.length + L.length := by
    intro L
    induction L with
    | nil => intro A; rfl
    | cons x L ih => intro A; rw [List.foldl_cons, ih, insP_length, List.length_cons]; omega
  have := key L []
  simpa [sortP] using this
theorem sortP_take_succ {L : List Pr} {i : Nat} {x : Pr} (h : L[i]? = some x) : sortP (L.take (i + 1)) = insP (sortP (L.take i)) x := by
  rw [List.take_add_one, h, Option.toList_some, sortP_snoc]
theorem insP_mem {A : List Pr} {x y : Pr} : y ∈ insP A x ↔ y = x ∨ y ∈ A := by
  unfold insP
  rw [List.mem_append, List.mem_cons]
  constructor
  · rintro (h | h | h)
    · exact .inr (List.mem_of_mem_take h)
    · exact .inl h
    · exact .inr (List.mem_of_mem_drop h)
  · rintro (h | h)
    · exact .inr (.inl h)
    · rw [← List.take_append_drop (plc A x A.length) A, List.mem_append] at h
      rcases h with h | h
      · exact .inl h
      · exact .inr (.inr h)
theorem sortP_mem {L : List Pr} {y : Pr} : y ∈ sortP L ↔ y ∈ L := by
  have key : ∀ (L A : List Pr), y ∈ L.foldl insP A ↔ y ∈ A ∨ y ∈ L := by
    intro L
    induction L with
    | nil => intro A; simp
    | cons x L ih =>
      intro A
      rw [List.foldl_cons, ih, insP_mem, List.mem_cons]
      constructor
      · rintro ((h | h) | h)
        · exact .inr (.inl h)
        · exact .inl h
        · exact .inr (.inr h)
      · rintro (h | h | h)
        · exact .inl (.inr h)
        · exact .inl (.inl h)
        · exact .inr h
  have := key L []
  simpa [sortP] using this

def flatP (L : List Pr) : List Value := L.flatMap fun p => [.string p.k, .string p.v]
theorem flatP_length (L : List Pr) : (flatP L).length = L.length * 2 := by
  induction L with
  | nil => rfl
  | cons p L ih => unfold flatP at ih ⊢; rw [List.flatMap_cons, List.length_append, ih]; simp; omega
theorem flatP_append (a b : List Pr) : flatP (a ++ b) = flatP a ++ flatP b := by simp [flatP]
theorem flatP_get {L : List Pr} {i : Nat} {p : Pr} (h : L[i]? = some p) {j : Nat} (hj : j < 2) : (flatP L)[i * 2 + j]? = ([.string p.k, .string p.v] : List Value)[j]? := by
  induction L generalizing i with
  | nil => simp at h
  | cons q L ih =>
    unfold flatP at ih ⊢
    rw [List.flatMap_cons]
    cases i with
    | zero =>
      simp at h; subst h
      rw [List.getElem?_append_left (by simp; omega)]; simp
    | succ i =>
      simp at h
      rw [List.getElem?_append_right (by simp; omega), show (i + 1) * 2 + j - ([.string q.k, .string q.v] : List Value).length = i * 2 + j by simp; omega]
      exact ih h
theorem flatP_one (L : List Pr) : ∀ u ∈ flatP L, u.oneCell' = true := by
  intro u hu
  unfold flatP at hu
  obtain ⟨p, _, hp⟩ := List.mem_flatMap.1 hu
  simp at hp
  rcases hp with rfl | rfl <;> rfl
/-- A row of attributes that was made behind the world W. -/
structure MineP (W w : World) (v : Value) (L : List Pr) : Prop where
  own : w.ownsRow W.heap.size 101 2 v L.length (flatP L)
  kept : Kept (fun _ => False) W w
theorem MineP.nil {W w : World} (k : Kept (fun _ => False) W w) : MineP W w (.slice none 0 0) [] := ⟨World.ownsRow_nil _ _ _ _, k⟩
theorem MineP.on {W w w' : World} {v : Value} {L : List Pr} (h : MineP W w v L) (hk : Kept (fun _ => False) w w') : MineP W w' v L := ⟨hk.owns h.own (fun _ _ x => x), h.kept.trans hk⟩
theorem MineP.keptS {S : Nat → Prop} {W w w' : World} {v : Value} {L : List Pr} (h : MineP W w v L) (hk : Kept S w w') (hn : ∀ k, v.ownBlock = some k → ¬ S k) (hs : ∀ k, S k → W.heap.size ≤ k) : MineP W w' v L := ⟨hk.owns h.own hn, h.kept.newer hk hs⟩
theorem MineP.down {W0 W w : World} {v : Value} {L : List Pr} (h : MineP W w v L) (hk : Kept (fun _ => False) W0 W) : MineP W0 w v L := by
  refine ⟨⟨h.own.1, ?_⟩, hk.trans h.kept⟩
  rcases h.own.2 with h0 | ⟨g, cap, cur, e, hg, rest⟩
  · exact .inl h0
  · exact .inr ⟨g, cap, cur, e, Nat.le_trans hk.size hg, rest⟩
theorem MineP.slice {W w : World} {v : Value} {L : List Pr} (h : MineP W w v L) : ∃ a c, v = .slice a L.length c := ownsRow_slice h.own
theorem MineP.at_ {W w : World} {a : Option Addr} {n c : Nat} {L : List Pr} (h : MineP W w (.slice a n c) L) : PsAt w a L := by
  intro h0
  rcases h.own.2 with ⟨_, e⟩ | ⟨g, cap, cur, e, _⟩
  · omega
  · injection e with e1 e2 e3
    subst e1
    refine ⟨g, 0, rfl, fun i p hi => ?_⟩
    have hc := h.own.cells (g := g) rfl
    have key : ∀ j u, j < 2 → ([.string p.k, .string p.v] : List Value)[j]? = some u → w.cell? ⟨g, i * 2 + j, none⟩ = some u := by
      intro j u hj hu
      have := hc (i * 2 + j) u (by rw [flatP_get hi hj]; exact hu)
      rwa [addr_add0] at this
    exact ⟨by rw [Nat.zero_add]; exact key 0 _ (by omega) rfl, by rw [Nat.zero_add]; exact key 1 _ (by omega) rfl⟩
theorem PsAt.src {w : World} {ao : Option Addr} {L : List Pr} {c : Nat} (h : PsAt w ao L) (h0 : L.length = 0 → True) : Src Try.prog 2 35 (.slice ao L.length c) L.length (flatP L) w := by
  cases ao with
  | none =>
    have hz : L.length = 0 := by
      rcases Nat.eq_zero_or_pos L.length with h1 | h1
      · exact h1
      · obtain ⟨_, _, e, _⟩ := h h1; cases e
    obtain rfl : L = [] := List.length_eq_zero_iff.1 hz
    exact Src.ofNil (w := w) Try.underlying35 c
  | some a =>
    refine Src.ofSlice _ Try.underlying35 a L.length c (flatP L) (flatP_length L) ?_ (flatP_one L)
    intro j u hu
    have hj : j < L.length * 2 := by have := (List.getElem?_eq_some_iff.1 hu).1; rwa [flatP_length] at this
    obtain ⟨g, o, e, hr⟩ := h (by omega)
    cases e
    have hi : j / 2 < L.length := by omega
    have hp := hr (j / 2) L[j / 2] (List.getElem?_eq_getElem hi)
    have hg := flatP_get (List.getElem?_eq_getElem hi) (j := j % 2) (by omega)
    rw [show j / 2 * 2 + j % 2 = j by omega, hu] at hg
    have e : (⟨g, o, none⟩ : Addr).add j = ⟨g, o + j, none⟩ := by unfold Addr.add; split <;> simp_all
    rw [e]
    rcases Nat.mod_two_eq_zero_or_one j with hm | hm
    · rw [hm] at hg
      injection hg with hg
      subst hg
      have := hp.c0
      rwa [show j / 2 * 2 = j by omega] at this
    · rw [hm] at hg
      injection hg with hg
      subst hg
      have := hp.c1
      rwa [show o + j / 2 * 2 + 1 = o + j by omega] at this
theorem wpList_mineP {ops : Array Oper} {rest : List Oper} {o : Oper} {a : Act} {Q : Exit → Act → World → Prop} {w : World} (hgd : o.guard = none) (s x : Operand)
    (ho : o.op = .call { callee := .builtin .append, args := #[s, x], argTypes := #[35, 35] })
    (W : World) (v : Value) (L : List Pr) (hv : a.eval s = v) (hm : MineP W w v L)
    (y : Value) (M : List Pr) (m : Nat) (hmm : M.length = m) (hy : a.eval x = y) (hs : Src Try.prog 2 35 y m (flatP M) w)
    (hl : L.length + m ≤ 1000000000)
    (h : ∀ v' w', MineP W w' v' (L ++ M) → Kept (fun k => v.ownBlock = some k) w w' → wpList Try.prog ops Q rest (a.put o.dst v') w') : wpList Try.prog ops Q (o :: rest) a w := by
  obtain ⟨i, hi, hz0, hz1, hz2⟩ := info_parts Try.infoPair
  refine wpList_append_src w hgd s x _ _ ho W.heap.size 101 i _ 2 32 Try.underlying35 hi hz0 hz1 hz2 rfl v L.length (flatP L) hv hm.own y m (flatP M) hy hs (by unfold maxLen; omega) (by omega) hm.kept.size ?_
  intro v' w' hown hg _ hat
  refine h v' w' ⟨?_, ?_⟩ ((Kept.refl (fun k => v.ownBlock = some k) w).grown hg (fun k e _ => e))
  · rw [List.length_append, flatP_append, hmm]
    exact hown
  · exact hm.kept.grown hg (fun k e hlt => by have := (ownsRow_lt hm.own e).2; omega)
/-- A cell of an own row of elements of s cells is set. -/
theorem owns_setS {w : World} {base s : Nat} {E : TypeId} {g n cap : Nat} {xs : List Value} (h : w.ownsRow base E s (.slice (some ⟨g, 0, none⟩) n cap) n xs) (j : Nat) (u : Value) :
    (w.setCell ⟨g, j, none⟩ u).ownsRow base E s (.slice (some ⟨g, 0, none⟩) n cap) n (xs.set j u) := by
  refine ⟨by simpa using h.1, ?_⟩
  rcases h.2 with ⟨e, _⟩ | ⟨g', cap', cur, e, hb, hg, hn, hm, hs, ht⟩
  · cases e
  · injection e with e1 e2 e3
    injection e1 with e1
    injection e1 with e1
    subst e1
    subst e3
    refine .inr ⟨g, cap, cur.setIfInBounds j u, rfl, hb, ?_, hn, hm, by simpa using hs, ?_⟩
    · simp [World.setCell, Array.getElem?_modify, hg]
    · rw [← ht]
      simp [List.take_set]
theorem flatP_set (L : List Pr) (i : Nat) (p : Pr) : ((flatP L).set (i * 2) (.string p.k)).set (i * 2 + 1) (.string p.v) = flatP (L.set i p) := by
  induction L generalizing i with
  | nil => rfl
  | cons q L ih =>
    unfold flatP at ih ⊢
    cases i with
    | zero => simp
    | succ i =>
      rw [List.set_cons_succ, List.flatMap_cons, List.flatMap_cons, ← ih i]
      simp [show (i + 1) * 2 = i * 2 + 2 by omega, List.set_cons_succ]

end Go.Proofs.Ytiiibhdohlpodaa

-- A8
namespace Go.Proofs.Ytiiibhdohlpodaa
open Go.RowKit
attribute [local go_sem ↓] Go.wp_at_zero Go.wp_at_succ

set_option maxHeartbeats 1000000 in
theorem pclone_any (ao : Option Addr) (c : Nat) (L : List Pr) (w : World) (hv : PsAt w ao L) (hl : L.length ≤ 1000000) :
    Calls Try.prog 84 #[.slice ao L.length c] w fun e w' => ∃ v, e = .returned v ∧ MineP w w' v L := by
  have q29 := fun (w : World) (a : Option Addr) (n c n' c' : Nat) => Lib.run_eql_slice_nil (P := Try.prog) w 35 101 a n c n' c' Try.underlying35
  cases ao with
  | none =>
    have hz : L = [] := by
      rcases Nat.eq_zero_or_pos L.length with h1 | h1
      · exact List.length_eq_zero_iff.1 h1
      · obtain ⟨_, _, e, _⟩ := hv h1; cases e
    subst hz
    clear hv
    go_enter Try.func84, Try.ntmps84
    go_wp2
    go_ret
    exact ⟨_, rfl, MineP.nil (Kept.refl _ _)⟩
  | some a =>
    have hs := PsAt.src (c := c) (hv.kept ((Kept.refl (fun _ => False) w).alloc (.cells #[] 101))) (fun _ => trivial)
    have hown0 : MineP w (w.alloc (.cells #[] 101)) (.slice (some ⟨w.heap.size, 0, none⟩) 0 0) [] :=
      ⟨⟨rfl, .inr ⟨w.heap.size, 0, #[], rfl, Nat.le_refl _, heap_alloc_new w _, Nat.le_refl _, by unfold maxLen; omega, rfl, rfl⟩⟩, (Kept.refl _ _).alloc _⟩
    have HO := Lib.hid hown0
    obtain ⟨n, hn⟩ : ∃ n, n = L.length := ⟨_, rfl⟩
    rw [← hn] at hs hl ⊢
    have HS := Lib.hid hs
    have HN := Lib.hid hn.symm
    have HL := Lib.hid hl
    clear hv hown0 hs hn hl
    go_enter Try.func84, Try.ntmps84
    go_wp2_with (at_builtin; refine wpList_mineP rfl (.tmp 5) (.tmp 6) rfl w _ [] rfl HO.out _ L n HN.out rfl HS.out (by have := HL.out; simp; omega) ?_; intro v' w1 hm hk; have HM := Lib.hid hm; clear hm hk)
    go_ret
    exact ⟨_, rfl, by have := HM.out; simpa using this⟩

theorem swap_list (P Q : List Pr) (x y : Pr) : ((P ++ y :: x :: Q).set (P.length + 1) y).set P.length x = P ++ x :: y :: Q := by
  rw [List.set_append_right _ _ (by omega), Nat.add_sub_cancel_left, List.set_append_right _ _ (Nat.le_refl _), Nat.sub_self]
  rfl
theorem sortP_one (L : List Pr) : sortP (L.take 1) ++ L.drop 1 = L := by
  cases L with
  | nil => rfl
  | cons x L => rfl
theorem mineP_free {W w : World} {g o n c : Nat} {L : List Pr} (h : MineP W w (.slice (some ⟨g, o, none⟩) n c) L) (h0 : 0 < L.length) : ∃ g', g' = g ∧ ∀ k, w.frozen? ⟨g', k, none⟩ = false := by
  rcases h.own.2 with ⟨_, e⟩ | ⟨g1, cap, cur, e, hg, hb, rest⟩
  · omega
  · injection e with e1 e2 e3
    injection e1 with e1
    injection e1 with e1
    subst e1
    exact ⟨g, rfl, fun k => by simp [World.frozen?, hb]⟩
theorem mineP_swap {W w : World} {g o n c : Nat} {M : List Pr} (h : MineP W w (.slice (some ⟨g, o, none⟩) n c) M) (ho : o = 0) {J j : Nat} (x y : Pr) :
    MineP W ((((w.setCell ⟨g, o + J * 2, none⟩ (.string y.k)).setCell ⟨g, o + J * 2 + 1, none⟩ (.string y.v)).setCell ⟨g, o + j * 2, none⟩ (.string x.k)).setCell ⟨g, o + j * 2 + 1, none⟩ (.string x.v)) (.slice (some ⟨g, o, none⟩) n c) ((M.set J y).set j x) := by
  subst ho
  have hlen : n = M.length := by obtain ⟨_, _, e⟩ := h.slice; injection e with _ e _
  subst hlen
  rw [Nat.zero_add, Nat.zero_add]
  have o1 := owns_setS (owns_setS (owns_setS (owns_setS h.own (J * 2) (.string y.k)) (J * 2 + 1) (.string y.v)) (j * 2) (.string x.k)) (j * 2 + 1) (.string x.v)
  rw [flatP_set, flatP_set] at o1
  have hb : ∀ k, (Value.slice (some ⟨g, 0, none⟩) M.length c).ownBlock = some k → W.heap.size ≤ k := fun k e => (ownsRow_lt h.own e).2
  have hg : W.heap.size ≤ g := hb g rfl
  refine ⟨by rw [List.length_set, List.length_set]; exact o1, ?_⟩
  have kk : Kept (fun k => k = g) w _ := ((((Kept.refl (fun k => k = g) w).setCell (p := ⟨g, J * 2, none⟩) (fun _ => rfl) (.string y.k)).setCell (p := ⟨g, J * 2 + 1, none⟩) (fun _ => rfl) (.string y.v)).setCell (p := ⟨g, j * 2, none⟩) (fun _ => rfl) (.string x.k)).setCell (p := ⟨g, j * 2 + 1, none⟩) (fun _ => rfl) (.string x.v)
  exact h.kept.newer kk (fun k e => by rw [e]; exact hg)
theorem getElem?_mid (P Q : List Pr) (x : Pr) (k : Nat) (h : P.length = k) : (P ++ x :: Q)[k]? = some x := by
  rw [← h, List.getElem?_append_right (Nat.le_refl _), Nat.sub_self]; rfl

end Go.Proofs.Ytiiibhdohlpodaa

-- A9
namespace Go.Proofs.Ytiiibhdohlpodaa
open Go.RowKit
attribute [local go_sem ↓] Go.wp_at_zero Go.wp_at_succ

end Go.Proofs.Ytiiibhdohlpodaa

-- AA
namespace Go.Proofs.Ytiiibhdohlpodaa
open Go.RowKit
attribute [local go_sem ↓] Go.wp_at_zero Go.wp_at_succ

theorem run_cutLn {P : Program} {t E : TypeId} {i : TypeInfo} {s : Nat} (ht : P.underlying t = some (.slice E)) (hi : P.info? E = some i) (hs : i.size = s) (a : Option Addr) (len cap lo : Nat) (hlo : lo ≤ len) (w : World) :
    (Instr.slice t (.slice a len cap) (some (.int .i64 (lo : Int))) none none).run P w = .ok (.slice (if cap = lo then a else a.map (·.add (lo * s))) (len - lo) (cap - lo)) w := by
  have he : P.elem t = E := by simp [Program.elem, ht]
  rw [run_slice_l w t a len cap (by rw [he]; exact ht) .i64 lo (by omega) (by omega), he]
  simp [sizeOf, typeInfo, hi, hs, sliced]
theorem run_cutLnAt {P : Program} {t E : TypeId} {i : TypeInfo} {s : Nat} (ht : P.underlying t = some (.slice E)) (hi : P.info? E = some i) (hs : i.size = s) (a : Option Addr) (len cap lo : Nat) (hlo : lo ≤ len) (w : World) :
    (Instr.sliceAt t (.slice a len cap) (some (.int .i64 (lo : Int))) none none).run P w = .ok (.slice (if cap = lo then a else a.map (·.add (lo * s))) (len - lo) (cap - lo)) w := by
  have he : P.elem t = E := by simp [Program.elem, ht]
  rw [run_sliceAt_slice w t _ _ _ _ (by rw [he]; exact ht)]
  exact run_cutLn ht hi hs a len cap lo hlo w
theorem PsAt.drop {W : World} {ao : Option Addr} {L : List Pr} {cap : Nat} (h : PsAt W ao L) (lo : Nat) (hc : L.length ≤ cap) : PsAt W (if cap = lo then ao else ao.map (·.add (lo * 2))) (L.drop lo) := by
  intro h0
  rw [List.length_drop] at h0
  obtain ⟨g, o, e, hr⟩ := h (by omega)
  rw [if_neg (by omega), e]
  refine ⟨g, o + lo * 2, ?_, fun i p hi => ?_⟩
  · show some ((⟨g, o, none⟩ : Addr).add (lo * 2)) = _
    have e : (⟨g, o, none⟩ : Addr).add (lo * 2) = ⟨g, o + lo * 2, none⟩ := by unfold Addr.add; split <;> simp_all
    rw [e]
  · rw [List.getElem?_drop] at hi
    have := hr (lo + i) p hi
    rw [show o + (lo + i) * 2 = o + lo * 2 + i * 2 by omega] at this
    exact this
theorem src_oneP (w : World) (p : Pr) : Src Try.prog 2 35 (.slice (some ⟨w.heap.size, 0, none⟩) 1 1) 1 (flatP [p]) (w.alloc (.cells #[.string p.k, .string p.v] 101)) :=
  Src.ofSlice _ Try.underlying35 _ 1 1 (flatP [p]) rfl (World.news_of_block (cs := #[.string p.k, .string p.v]) (t := 101) (fr := (0, 0)) (heap_alloc_new w _)) (flatP_one [p])

set_option maxHeartbeats 8000000 in
set_option maxRecDepth 100000 in
theorem refSorted11_any (ao : Option Addr) (c : Nat) (L : List Pr) (w : World) (hv : PsAt w ao L) (hl : L.length ≤ 1000000) :
    Calls Try.prog 55 #[.slice ao L.length c] w fun e w' => ∃ v, e = .returned v ∧ MineP w w' v (sortP L) := by
  have HR := Lib.hid hv
  have HL := Lib.hid hl
  obtain ⟨n, hn⟩ : ∃ n, n = L.length := ⟨_, rfl⟩
  have HN := Lib.hid hn
  rw [← hn]
  obtain ⟨iP, hiP, hzP0, hzP1, hzP2⟩ := info_parts Try.infoPair
  have HT := Lib.hid (show sortP (L.take n) = sortP L by rw [hn, List.take_length])
  clear hv hl hn hzP0 hzP2
  go_enter Try.func55, Try.ntmps55
  go_wp2
  go_loopg [3, 4] n (fun g s3 s4 wr => ∃ i : Nat, i ≤ n ∧ g = n - i ∧ s4 = .int .i64 i ∧ MineP w wr s3 (sortP (L.take i)))
  case atStart => exact ⟨0, Nat.zero_le _, rfl, rfl, MineP.nil (Kept.refl _ _)⟩
  case round =>
    obtain ⟨i, hin, rfl, rfl, hx⟩ := hrel
    by_cases hd : i < n
    · have hdi : (i : Int) < (n : Int) := by omega
      have hi0 : (0 : Int) ≤ (i : Int) := by omega
      have HD := Lib.hid hd
      have wi : IntKind.i64.wrap ((i : Int) + 1) = ((i + 1 : Nat) : Int) := by rw [IntWalk.i64_in _ ⟨by omega, by have := HL.out; have := HN.out; omega⟩]; omega
      have hiL : i < L.length := by have := HN.out; omega
      have hLi := List.getElem?_eq_getElem hiL
      have hsc := sortP_take_succ hLi
      obtain ⟨ga, oa, rfl, hrec⟩ := HR.out (by omega)
      have hel := hrec i L[i] hLi
      obtain ⟨x, hxx⟩ : ∃ x, x = L[i] := ⟨_, rfl⟩
      rw [← hxx] at hsc hel
      obtain ⟨A, hA⟩ : ∃ A, A = sortP (L.take i) := ⟨_, rfl⟩
      have hAl : A.length = i := by rw [hA, sortP_length, List.length_take]; omega
      rw [← hA] at hx hsc
      obtain ⟨xo, co, ev⟩ := hx.slice
      rw [hAl] at ev
      subst ev
      have HX := Lib.hid hx
      have HSC := Lib.hid hsc
      have HAL := Lib.hid hAl
      have HEL := Lib.hid (hel.keptS hx.kept (fun x => x))
      have HCO := Lib.hid (show i ≤ co by have h := own_cap hx.own; omega)
      clear hd hin hiL hLi hsc hrec hel hxx hA hAl hx
      obtain ⟨wo, hwo⟩ : ∃ w', w' = wr := ⟨_, rfl⟩
      subst hwo
      go_wp2
      go_loopg [5] (2 * i) (fun g2 s5 ws => ∃ k : Nat, k ≤ i ∧ g2 = 2 * k ∧ s5 = .int .i64 k ∧ plc A x i = plc A x k ∧ Kept (fun _ => False) wo ws)
      case atStart => exact ⟨i, Nat.le_refl _, rfl, rfl, rfl, Kept.refl _ _⟩
      case round =>
        obtain ⟨K, hKi, rfl, rfl, hp, kw⟩ := hrel
        have HP := Lib.hid hp
        have HKI := Lib.hid hKi
        have HK := Lib.hid kw
        clear hp hKi kw
        rcases Nat.eq_zero_or_pos K with hK0 | hK0
        · have HK2 := Lib.hid (HK.out.drew)
          have HPE := Lib.hid (show plc A x A.length = K by rw [HAL.out, HP.out, hK0]; rfl)
          have hgt : ¬ (0 : Int) < (K : Int) := by omega
          have hgd : decide ((0 : Int) < (K : Int)) = false := decide_eq_false hgt
          have hgn : decide (0 < K) = false := decide_eq_false (by omega)
          have hgN : ¬ 0 < K := by omega
          clear hK0
          go_upto_region 6 with fail
          refine AnyBut.start (S := fun _ => True) (k := 16) (by kernel_rfl) ?_
          refine AnyBut.takeS (i := 0) (v := ?v1) rfl (by kernel_rfl) (Nat.le_of_eq (by kernel_rfl)) (by kernel_rfl) (by kernel_rfl) (fun _ _ _ h => h) (trivial) (Or.inl ⟨by kernel_rfl, ?hy1⟩) ?r1
          case hy1 =>
            intro w hSw
            try dsimp only at hSw
            go_simp
            try with_reducible rfl
          try simp only [Act.put, List.getElem_toArray, List.getElem_cons_zero, List.setIfInBounds_toArray, List.set_cons_zero, List.set_cons_succ]
          refine AnyBut.takeS (i := 1) (v := ?v2) rfl (by kernel_rfl) (Nat.le_of_eq (by kernel_rfl)) (by kernel_rfl) (by kernel_rfl) (fun _ _ _ h => h) (trivial) (Or.inl ⟨by kernel_rfl, ?hy2⟩) ?r2
          case hy2 =>
            intro w hSw
            try dsimp only at hSw
            go_simp
            try with_reducible rfl
          try simp only [Act.put, List.getElem_toArray, List.getElem_cons_succ, List.getElem_cons_zero, List.setIfInBounds_toArray, List.set_cons_zero, List.set_cons_succ]
          refine AnyBut.takeS (i := 2) (v := ?v3) rfl (by kernel_rfl) (Nat.le_of_eq (by kernel_rfl)) (by kernel_rfl) (by kernel_rfl) (fun _ _ _ h => h) (trivial) (Or.inl ⟨by kernel_rfl, ?hy3⟩) ?r3
          case hy3 =>
            intro w hSw
            try dsimp only at hSw
            go_simp
            try with_reducible rfl
          try simp only [Act.put, List.getElem_toArray, List.getElem_cons_succ, List.getElem_cons_zero, List.setIfInBounds_toArray, List.set_cons_zero, List.set_cons_succ]
          refine AnyBut.takeS (i := 3) (v := undef) rfl (by kernel_rfl) (Nat.le_of_eq (by kernel_rfl)) (by kernel_rfl) (by kernel_rfl) (fun _ _ _ h => h) (trivial) (Or.inr ⟨by kernel_rfl, rfl⟩) ?r4
          try simp only [Act.put, List.getElem_toArray, List.getElem_cons_succ, List.getElem_cons_zero, List.setIfInBounds_toArray, List.set_cons_zero, List.set_cons_succ]
          refine AnyBut.takeS (i := 4) (v := undef) rfl (by kernel_rfl) (Nat.le_of_eq (by kernel_rfl)) (by kernel_rfl) (by kernel_rfl) (fun _ _ _ h => h) (trivial) (Or.inr ⟨by kernel_rfl, rfl⟩) ?r5
          try simp only [Act.put, List.getElem_toArray, List.getElem_cons_succ, List.getElem_cons_zero, List.setIfInBounds_toArray, List.set_cons_zero, List.set_cons_succ]
          refine AnyBut.takeS (i := 5) (v := undef) rfl (by kernel_rfl) (Nat.le_of_eq (by kernel_rfl)) (by kernel_rfl) (by kernel_rfl) (fun _ _ _ h => h) (trivial) (Or.inr ⟨by kernel_rfl, rfl⟩) ?r6
          try simp only [Act.put, List.getElem_toArray, List.getElem_cons_succ, List.getElem_cons_zero, List.setIfInBounds_toArray, List.set_cons_zero, List.set_cons_succ]
          refine AnyBut.takeS (i := 6) (v := undef) rfl (by kernel_rfl) (Nat.le_of_eq (by kernel_rfl)) (by kernel_rfl) (by kernel_rfl) (fun _ _ _ h => h) (trivial) (Or.inr ⟨by kernel_rfl, rfl⟩) ?r7
          try simp only [Act.put, List.getElem_toArray, List.getElem_cons_succ, List.getElem_cons_zero, List.setIfInBounds_toArray, List.set_cons_zero, List.set_cons_succ]
          refine AnyBut.takeS (i := 7) (v := undef) rfl (by kernel_rfl) (Nat.le_of_eq (by kernel_rfl)) (by kernel_rfl) (by kernel_rfl) (fun _ _ _ h => h) (trivial) (Or.inr ⟨by kernel_rfl, rfl⟩) ?r8
          try simp only [Act.put, List.getElem_toArray, List.getElem_cons_succ, List.getElem_cons_zero, List.setIfInBounds_toArray, List.set_cons_zero, List.set_cons_succ]
          refine AnyBut.takeS (i := 8) (v := undef) rfl (by kernel_rfl) (Nat.le_of_eq (by kernel_rfl)) (by kernel_rfl) (by kernel_rfl) (fun _ _ _ h => h) (trivial) (Or.inr ⟨by kernel_rfl, rfl⟩) ?r9
          try simp only [Act.put, List.getElem_toArray, List.getElem_cons_succ, List.getElem_cons_zero, List.setIfInBounds_toArray, List.set_cons_zero, List.set_cons_succ]
          refine AnyBut.takeS (i := 9) (v := undef) rfl (by kernel_rfl) (Nat.le_of_eq (by kernel_rfl)) (by kernel_rfl) (by kernel_rfl) (fun _ _ _ h => h) (trivial) (Or.inr ⟨by kernel_rfl, rfl⟩) ?r10
          try simp only [Act.put, List.getElem_toArray, List.getElem_cons_succ, List.getElem_cons_zero, List.setIfInBounds_toArray, List.set_cons_zero, List.set_cons_succ]
          refine AnyBut.takeS (i := 10) (v := undef) rfl (by kernel_rfl) (Nat.le_of_eq (by kernel_rfl)) (by kernel_rfl) (by kernel_rfl) (fun _ _ _ h => h) (trivial) (Or.inr ⟨by kernel_rfl, rfl⟩) ?r11
          try simp only [Act.put, List.getElem_toArray, List.getElem_cons_succ, List.getElem_cons_zero, List.setIfInBounds_toArray, List.set_cons_zero, List.set_cons_succ]
          refine AnyBut.takeS (i := 11) (v := undef) rfl (by kernel_rfl) (Nat.le_of_eq (by kernel_rfl)) (by kernel_rfl) (by kernel_rfl) (fun _ _ _ h => h) (trivial) (Or.inr ⟨by kernel_rfl, rfl⟩) ?r12
          try simp only [Act.put, List.getElem_toArray, List.getElem_cons_succ, List.getElem_cons_zero, List.setIfInBounds_toArray, List.set_cons_zero, List.set_cons_succ]
          refine AnyBut.takeS (i := 12) (v := undef) rfl (by kernel_rfl) (Nat.le_of_eq (by kernel_rfl)) (by kernel_rfl) (by kernel_rfl) (fun _ _ _ h => h) (trivial) (Or.inr ⟨by kernel_rfl, rfl⟩) ?r13
          try simp only [Act.put, List.getElem_toArray, List.getElem_cons_succ, List.getElem_cons_zero, List.setIfInBounds_toArray, List.set_cons_zero, List.set_cons_succ]
          refine AnyBut.takeS (i := 13) (v := undef) rfl (by kernel_rfl) (Nat.le_of_eq (by kernel_rfl)) (by kernel_rfl) (by kernel_rfl) (fun _ _ _ h => h) (trivial) (Or.inr ⟨by kernel_rfl, rfl⟩) ?r14
          try simp only [Act.put, List.getElem_toArray, List.getElem_cons_succ, List.getElem_cons_zero, List.setIfInBounds_toArray, List.set_cons_zero, List.set_cons_succ]
          refine AnyBut.takeS (i := 14) (v := undef) rfl (by kernel_rfl) (Nat.le_of_eq (by kernel_rfl)) (by kernel_rfl) (by kernel_rfl) (fun _ _ _ h => h) (trivial) (Or.inr ⟨by kernel_rfl, rfl⟩) ?r15
          try simp only [Act.put, List.getElem_toArray, List.getElem_cons_succ, List.getElem_cons_zero, List.setIfInBounds_toArray, List.set_cons_zero, List.set_cons_succ]
          refine AnyBut.takeS (i := 15) (v := ?v16) rfl (by kernel_rfl) (Nat.le_of_eq (by kernel_rfl)) (by kernel_rfl) (by kernel_rfl) (fun _ _ _ h => h) (trivial) (Or.inl ⟨by kernel_rfl, ?hy16⟩) ?r16
          case hy16 =>
            intro w hSw
            try dsimp only at hSw
            go_simp
            try with_reducible rfl
          try simp only [Act.put, List.getElem_toArray, List.getElem_cons_succ, List.getElem_cons_zero, List.setIfInBounds_toArray, List.set_cons_zero, List.set_cons_succ]
          refine AnyBut.done (by kernel_rfl) ?_
          obtain ⟨wd, hwd⟩ : ∃ w', w' = wr.drew := ⟨_, rfl⟩
          rw [← hwd] at HK2 ⊢
          clear hwd
          obtain ⟨xk, xv⟩ := x
          have htl : (A.take K).length = K := by rw [List.length_take]; have := HAL.out; have := HKI.out; omega
          have hdl : (A.drop K).length = i - K := by rw [List.length_drop]; have := HAL.out; omega
          have HX2 := Lib.hid (HX.out.on HK2.out)
          have hpt : PsAt wd xo (A.take K) := HX2.out.at_.take K
          have hs1 := PsAt.src (c := co) hpt (fun _ => trivial)
          rw [htl] at hs1
          have HS1 := Lib.hid hs1
          have HTL := Lib.hid (And.intro htl hdl)
          have hK2 : K ≤ co := by have := HKI.out; have := HCO.out; omega
          have hKi2 : K ≤ i := HKI.out
          have hcut : ∀ w, _ := fun w => run_cutHn (P := Try.prog) Try.underlying35 hiP xo i co K hK2 w
          have hcutA : ∀ w, _ := fun w => run_cutHnAt (P := Try.prog) Try.underlying35 hiP xo i co K hK2 w
          have hcutB : ∀ w, _ := fun w => run_cutLn (P := Try.prog) Try.underlying35 hiP hzP1 xo i co K hKi2 w
          have hcutC : ∀ w, _ := fun w => run_cutLnAt (P := Try.prog) Try.underlying35 hiP hzP1 xo i co K hKi2 w
          obtain ⟨AD, hAD⟩ : ∃ a : Option Addr, a = (if co = K then xo else Option.map (fun x => Addr.add x (K * 2)) xo) := ⟨_, rfl⟩
          rw [← hAD] at hcutB hcutC
          have HAD := Lib.hid hAD
          obtain ⟨dl, hdl2⟩ : ∃ k, k = i - K := ⟨_, rfl⟩
          rw [← hdl2] at hcutB hcutC
          have HDL := Lib.hid hdl2
          obtain ⟨dc, hdc⟩ : ∃ k, k = co - K := ⟨_, rfl⟩
          rw [← hdc] at hcutB hcutC
          have HM0 := Lib.hid (MineP.nil (Kept.refl (fun _ => False) wd))
          have HOB := Lib.hid (show ∀ k, (Value.slice xo i co).ownBlock = some k → k < wd.heap.size from fun k e => (ownsRow_lt HX2.out.own e).1)
          have HSZ := Lib.hid (show i ≤ 1000000 ∧ K ≤ 1000000 from ⟨by have := HL.out; have := HN.out; have := HD.out; omega, by have := HKI.out; have := HL.out; have := HN.out; have := HD.out; omega⟩)
          have HEL2 := Lib.hid (PElt.keptS HEL.out HK2.out (fun x => x))
          clear hpt hs1 htl hdl hK2 hKi2 hAD hdl2 hdc
          go_upto_region 10 with (at_builtin; refine wpList_mineP rfl (.tmp 33) (.tmp 36) rfl wd _ [] rfl HM0.out _ (A.take K) K HTL.out.1 rfl HS1.out (by have := HSZ.out; simp; omega) ?_; intro v1 w1 hm1 hk1; have HM1 := Lib.hid (show MineP wd w1 v1 (A.take K) by simpa using hm1); clear hm1 hk1)
          clear hcut hcutA
          have hx3 := HEL2.out.keptS HM1.out.kept (fun x => x)
          obtain ⟨x0, x1⟩ := hx3
          dsimp only at x0 x1
          have ke : Kept (fun _ => False) w1 (w1.alloc (.cells #[.string xk, .string xv] 101)) := (Kept.refl _ _).alloc _
          have HM1e := Lib.hid (HM1.out.on ke)
          have HSe := Lib.hid (src_oneP w1 ⟨xk, xv⟩)
          dsimp only at HSe
          clear ke
          go_upto_region 11 with (at_builtin; refine wpList_mineP rfl (.tmp 38) (.tmp 43) rfl wd _ (A.take K) rfl HM1e.out _ [⟨xk, xv⟩] 1 rfl rfl HSe.out (by have := HTL.out.1; have := HSZ.out; omega) ?_; intro v2 w2 hm2 hk2; have HM2 := Lib.hid hm2; clear hm2 hk2)
          clear x0 x1
          have HX3 := Lib.hid (HX2.out.on HM2.out.kept)
          have hdr := PsAt.drop HX3.out.at_ K (by rw [HAL.out]; exact HCO.out)
          rw [← HAD.out] at hdr
          have hs3 := PsAt.src (c := dc) hdr (fun _ => trivial)
          rw [HTL.out.2, ← HDL.out] at hs3
          have HS3 := Lib.hid hs3
          clear hdr hs3
          go_upto_region 4 with (at_builtin; refine wpList_mineP rfl (.tmp 45) (.tmp 48) rfl wd _ (A.take K ++ [(⟨xk, xv⟩ : Pr)]) rfl HM2.out _ (A.drop K) dl (by rw [HTL.out.2, HDL.out]) rfl HS3.out (by have h1 := HTL.out.1; have := HSZ.out; have := HDL.out; rw [List.length_append, h1]; simp; omega) ?_; intro v3 w3 hm3 hk3; have HM3 := Lib.hid hm3; clear hm3 hk3)
          have hfin : MineP w w3 v3 (sortP (L.take (i + 1))) := by
            have h := HM3.out.down (HX.out.kept.trans HK2.out)
            rw [HSC.out]
            unfold insP
            rw [HPE.out]
            rw [List.append_assoc] at h
            exact h
          have HFIN := Lib.hid hfin
          clear hfin
          go_wp2
          go_roundg (n - (i + 1))
          case measure => have := HD.out; omega
          case rel => exact ⟨i + 1, HD.out, rfl, rfl, HFIN.out⟩
        · obtain ⟨j, hj⟩ : ∃ j, K = j + 1 := ⟨K - 1, by omega⟩
          have hgt : (0 : Int) < (K : Int) := by omega
          have hgd : decide ((0 : Int) < (K : Int)) = true := decide_eq_true hgt
          have hgn : decide (0 < K) = true := decide_eq_true hK0
          have wj : IntKind.i64.wrap ((K : Int) - 1) = (j : Int) := by rw [IntWalk.i64_in _ ⟨by omega, by have := HKI.out; have := HD.out; have := HL.out; have := HN.out; omega⟩]; omega
          have hji : (j : Int) < (i : Int) := by have := HKI.out; omega
          have hj00 : (0 : Int) ≤ (j : Int) := by omega
          have hjA : j < A.length := by have := HAL.out; have := HKI.out; omega
          have hy := List.getElem?_eq_getElem hjA
          obtain ⟨go, oo, rfl, hrec⟩ := HX.out.at_ (by omega)
          have hel2 := (hrec j A[j] hy).keptS HK.out.drew (fun x => x)
          obtain ⟨y, hyy⟩ : ∃ y, y = A[j] := ⟨_, rfl⟩
          rw [← hyy] at hy hel2
          have hplc : plc A x K = if ltS x.k y.k = true then plc A x j else K := by rw [hj]; show (if ltS x.k (A.getD j pr0).k = true then _ else _) = _; rw [getD_pr hy]
          obtain ⟨lt, hlt⟩ : ∃ b, b = ltS x.k y.k := ⟨_, rfl⟩
          have hgS : (!(Op.bytesLess y.k.toList x.k.toList || y.k.toList == x.k.toList)) = lt := by rw [gtS, hlt]
          rw [← hlt] at hplc
          have HPL := Lib.hid hplc
          have HJ := Lib.hid hj
          have hx2 := HEL.out.keptS HK.out.drew (fun x => x)
          obtain ⟨xk, xv⟩ := x
          obtain ⟨yk, yv⟩ := y
          obtain ⟨x0, x1⟩ := hx2
          obtain ⟨y0, y1⟩ := hel2
          dsimp only at x0 y0 hgS
          have HSS : Hid ((fun w' => w'.cell? ⟨go, oo + j * 2, none⟩ = some (.string yk) ∧ w'.cell? ⟨ga, oa + i * 2, none⟩ = some (.string xk)) wr.drew) := Lib.hid ⟨y0, x0⟩
          have HK2 := Lib.hid (HK.out.drew)
          clear hK0 hj hjA hy hrec hyy hplc hlt x0 x1 y0 y1
          go_upto_region 6 with fail
          refine AnyBut.start (S := fun w' => w'.cell? ⟨go, oo + j * 2, none⟩ = some (.string yk) ∧ w'.cell? ⟨ga, oa + i * 2, none⟩ = some (.string xk)) (k := 16) (by kernel_rfl) ?_
          refine AnyBut.takeS (i := 0) (v := ?v17) rfl (by kernel_rfl) (Nat.le_of_eq (by kernel_rfl)) (by kernel_rfl) (by kernel_rfl) (fun _ _ _ h => h) (HSS.out) (Or.inl ⟨by kernel_rfl, ?hy17⟩) ?r17
          case hy17 =>
            intro w hSw
            try dsimp only at hSw
            go_simp
            try with_reducible rfl
          try simp only [Act.put, List.getElem_toArray, List.getElem_cons_zero, List.setIfInBounds_toArray, List.set_cons_zero, List.set_cons_succ]
          refine AnyBut.takeS (i := 1) (v := ?v18) rfl (by kernel_rfl) (Nat.le_of_eq (by kernel_rfl)) (by kernel_rfl) (by kernel_rfl) (fun _ _ _ h => h) (HSS.out) (Or.inl ⟨by kernel_rfl, ?hy18⟩) ?r18
          case hy18 =>
            intro w hSw
            try dsimp only at hSw
            go_simp
            try with_reducible rfl
          try simp only [Act.put, List.getElem_toArray, List.getElem_cons_succ, List.getElem_cons_zero, List.setIfInBounds_toArray, List.set_cons_zero, List.set_cons_succ]
          refine AnyBut.takeS (i := 2) (v := ?v19) rfl (by kernel_rfl) (Nat.le_of_eq (by kernel_rfl)) (by kernel_rfl) (by kernel_rfl) (fun _ _ _ h => h) (HSS.out) (Or.inl ⟨by kernel_rfl, ?hy19⟩) ?r19
          case hy19 =>
            intro w hSw
            try dsimp only at hSw
            go_simp
            try with_reducible rfl
          try simp only [Act.put, List.getElem_toArray, List.getElem_cons_succ, List.getElem_cons_zero, List.setIfInBounds_toArray, List.set_cons_zero, List.set_cons_succ]
          refine AnyBut.takeS (i := 3) (v := ?v20) rfl (by kernel_rfl) (Nat.le_of_eq (by kernel_rfl)) (by kernel_rfl) (by kernel_rfl) (fun _ _ _ h => h) (HSS.out) (Or.inl ⟨by kernel_rfl, ?hy20⟩) ?r20
          case hy20 =>
            intro w hSw
            try dsimp only at hSw
            go_simp
            try with_reducible rfl
          try simp only [Act.put, List.getElem_toArray, List.getElem_cons_succ, List.getElem_cons_zero, List.setIfInBounds_toArray, List.set_cons_zero, List.set_cons_succ]
          refine AnyBut.takeS (i := 4) (v := ?v21) rfl (by kernel_rfl) (Nat.le_of_eq (by kernel_rfl)) (by kernel_rfl) (by kernel_rfl) (fun _ _ _ h => h) (HSS.out) (Or.inl ⟨by kernel_rfl, ?hy21⟩) ?r21
          case hy21 =>
            intro w hSw
            try dsimp only at hSw
            go_simp
            try with_reducible rfl
          try simp only [Act.put, List.getElem_toArray, List.getElem_cons_succ, List.getElem_cons_zero, List.setIfInBounds_toArray, List.set_cons_zero, List.set_cons_succ]
          refine AnyBut.takeS (i := 5) (v := ?v22) rfl (by kernel_rfl) (Nat.le_of_eq (by kernel_rfl)) (by kernel_rfl) (by kernel_rfl) (fun _ _ _ h => h) (HSS.out) (Or.inl ⟨by kernel_rfl, ?hy22⟩) ?r22
          case hy22 =>
            intro w hSw
            try dsimp only at hSw
            go_simp
            try with_reducible rfl
          try simp only [Act.put, List.getElem_toArray, List.getElem_cons_succ, List.getElem_cons_zero, List.setIfInBounds_toArray, List.set_cons_zero, List.set_cons_succ]
          refine AnyBut.takeS (i := 6) (v := ?v23) rfl (by kernel_rfl) (Nat.le_of_eq (by kernel_rfl)) (by kernel_rfl) (by kernel_rfl) (fun _ _ _ h => h) (HSS.out) (Or.inl ⟨by kernel_rfl, ?hy23⟩) ?r23
          case hy23 =>
            intro w hSw
            try dsimp only at hSw
            go_simp
            try with_reducible rfl
          try simp only [Act.put, List.getElem_toArray, List.getElem_cons_succ, List.getElem_cons_zero, List.setIfInBounds_toArray, List.set_cons_zero, List.set_cons_succ]
          refine AnyBut.takeS (i := 7) (v := ?v24) rfl (by kernel_rfl) (Nat.le_of_eq (by kernel_rfl)) (by kernel_rfl) (by kernel_rfl) (fun _ _ _ h => h) (HSS.out) (Or.inl ⟨by kernel_rfl, ?hy24⟩) ?r24
          case hy24 =>
            intro w hSw
            try dsimp only at hSw
            go_simp
            try with_reducible rfl
          try simp only [Act.put, List.getElem_toArray, List.getElem_cons_succ, List.getElem_cons_zero, List.setIfInBounds_toArray, List.set_cons_zero, List.set_cons_succ]
          refine AnyBut.takeS (i := 8) (v := ?v25) rfl (by kernel_rfl) (Nat.le_of_eq (by kernel_rfl)) (by kernel_rfl) (by kernel_rfl) (fun _ _ _ h => h) (HSS.out) (Or.inl ⟨by kernel_rfl, ?hy25⟩) ?r25
          case hy25 =>
            intro w hSw
            try dsimp only at hSw
            go_simp
            try with_reducible rfl
          try simp only [Act.put, List.getElem_toArray, List.getElem_cons_succ, List.getElem_cons_zero, List.setIfInBounds_toArray, List.set_cons_zero, List.set_cons_succ]
          refine AnyBut.takeS (i := 9) (v := ?v26) rfl (by kernel_rfl) (Nat.le_of_eq (by kernel_rfl)) (by kernel_rfl) (by kernel_rfl) (fun _ _ _ h => h) (HSS.out) (Or.inl ⟨by kernel_rfl, ?hy26⟩) ?r26
          case hy26 =>
            intro w hSw
            try dsimp only at hSw
            go_simp
            try with_reducible rfl
          try simp only [Act.put, List.getElem_toArray, List.getElem_cons_succ, List.getElem_cons_zero, List.setIfInBounds_toArray, List.set_cons_zero, List.set_cons_succ]
          refine AnyBut.takeS (i := 10) (v := ?v27) rfl (by kernel_rfl) (Nat.le_of_eq (by kernel_rfl)) (by kernel_rfl) (by kernel_rfl) (fun _ _ _ h => h) (HSS.out) (Or.inl ⟨by kernel_rfl, ?hy27⟩) ?r27
          case hy27 =>
            intro w hSw
            try dsimp only at hSw
            go_simp
            try with_reducible rfl
          try simp only [Act.put, List.getElem_toArray, List.getElem_cons_succ, List.getElem_cons_zero, List.setIfInBounds_toArray, List.set_cons_zero, List.set_cons_succ]
          refine AnyBut.takeS (i := 11) (v := ?v28) rfl (by kernel_rfl) (Nat.le_of_eq (by kernel_rfl)) (by kernel_rfl) (by kernel_rfl) (fun _ _ _ h => h) (HSS.out) (Or.inl ⟨by kernel_rfl, ?hy28⟩) ?r28
          case hy28 =>
            intro w hSw
            try dsimp only at hSw
            go_simp
            try with_reducible rfl
          try simp only [Act.put, List.getElem_toArray, List.getElem_cons_succ, List.getElem_cons_zero, List.setIfInBounds_toArray, List.set_cons_zero, List.set_cons_succ]
          refine AnyBut.takeS (i := 12) (v := ?v29) rfl (by kernel_rfl) (Nat.le_of_eq (by kernel_rfl)) (by kernel_rfl) (by kernel_rfl) (fun _ _ _ h => h) (HSS.out) (Or.inl ⟨by kernel_rfl, ?hy29⟩) ?r29
          case hy29 =>
            intro w hSw
            try dsimp only at hSw
            go_simp
            try with_reducible rfl
          try simp only [Act.put, List.getElem_toArray, List.getElem_cons_succ, List.getElem_cons_zero, List.setIfInBounds_toArray, List.set_cons_zero, List.set_cons_succ]
          refine AnyBut.takeS (i := 13) (v := ?v30) rfl (by kernel_rfl) (Nat.le_of_eq (by kernel_rfl)) (by kernel_rfl) (by kernel_rfl) (fun _ _ _ h => h) (HSS.out) (Or.inl ⟨by kernel_rfl, ?hy30⟩) ?r30
          case hy30 =>
            intro w hSw
            try dsimp only at hSw
            go_simp
            try with_reducible rfl
          try simp only [Act.put, List.getElem_toArray, List.getElem_cons_succ, List.getElem_cons_zero, List.setIfInBounds_toArray, List.set_cons_zero, List.set_cons_succ]
          refine AnyBut.takeS (i := 14) (v := ?v31) rfl (by kernel_rfl) (Nat.le_of_eq (by kernel_rfl)) (by kernel_rfl) (by kernel_rfl) (fun _ _ _ h => h) (HSS.out) (Or.inl ⟨by kernel_rfl, ?hy31⟩) ?r31
          case hy31 =>
            intro w hSw
            try dsimp only at hSw
            go_simp
            try with_reducible rfl
          try simp only [Act.put, List.getElem_toArray, List.getElem_cons_succ, List.getElem_cons_zero, List.setIfInBounds_toArray, List.set_cons_zero, List.set_cons_succ]
          refine AnyBut.takeS (i := 15) (v := ?v32) rfl (by kernel_rfl) (Nat.le_of_eq (by kernel_rfl)) (by kernel_rfl) (by kernel_rfl) (fun _ _ _ h => h) (HSS.out) (Or.inl ⟨by kernel_rfl, ?hy32⟩) ?r32
          case hy32 =>
            intro w hSw
            try dsimp only at hSw
            go_simp
            try with_reducible rfl
          try simp only [Act.put, List.getElem_toArray, List.getElem_cons_succ, List.getElem_cons_zero, List.setIfInBounds_toArray, List.set_cons_zero, List.set_cons_succ]
          refine AnyBut.done (by kernel_rfl) ?_
          obtain ⟨wd, hwd⟩ : ∃ w', w' = wr.drew := ⟨_, rfl⟩
          rw [← hwd] at HK2 ⊢
          clear hwd HSS
          cases lt with
          | true =>
            have HPE := Lib.hid (show plc A ⟨xk, xv⟩ K = plc A ⟨xk, xv⟩ j from HPL.out.trans (if_pos rfl))
            go_wp2
            go_roundg (2 * j)
            case measure => have := HJ.out; omega
            case rel => exact ⟨j, by have := HJ.out; have := HKI.out; omega, rfl, rfl, HP.out.trans HPE.out, HK2.out⟩
          | false =>
            have HPE := Lib.hid (show plc A ⟨xk, xv⟩ A.length = K by rw [HAL.out, HP.out]; exact HPL.out.trans (if_neg (by decide)))
            have htl : (A.take K).length = K := by rw [List.length_take]; have := HAL.out; have := HKI.out; omega
            have hdl : (A.drop K).length = i - K := by rw [List.length_drop]; have := HAL.out; omega
            have HX2 := Lib.hid (HX.out.on HK2.out)
            have hpt : PsAt wd (some ⟨go, oo, none⟩) (A.take K) := HX2.out.at_.take K
            have hs1 := PsAt.src (c := co) hpt (fun _ => trivial)
            rw [htl] at hs1
            have HS1 := Lib.hid hs1
            have HTL := Lib.hid (And.intro htl hdl)
            have hK2 : K ≤ co := by have := HKI.out; have := HCO.out; omega
            have hKi2 : K ≤ i := HKI.out
            have hcut : ∀ w, _ := fun w => run_cutHn (P := Try.prog) Try.underlying35 hiP (some ⟨go, oo, none⟩) i co K hK2 w
            have hcutA : ∀ w, _ := fun w => run_cutHnAt (P := Try.prog) Try.underlying35 hiP (some ⟨go, oo, none⟩) i co K hK2 w
            have hcutB : ∀ w, _ := fun w => run_cutLn (P := Try.prog) Try.underlying35 hiP hzP1 (some ⟨go, oo, none⟩) i co K hKi2 w
            have hcutC : ∀ w, _ := fun w => run_cutLnAt (P := Try.prog) Try.underlying35 hiP hzP1 (some ⟨go, oo, none⟩) i co K hKi2 w
            obtain ⟨AD, hAD⟩ : ∃ a : Option Addr, a = (if co = K then some ⟨go, oo, none⟩ else Option.map (fun x => Addr.add x (K * 2)) (some ⟨go, oo, none⟩)) := ⟨_, rfl⟩
            rw [← hAD] at hcutB hcutC
            have HAD := Lib.hid hAD
            obtain ⟨dl, hdl2⟩ : ∃ k, k = i - K := ⟨_, rfl⟩
            rw [← hdl2] at hcutB hcutC
            have HDL := Lib.hid hdl2
            obtain ⟨dc, hdc⟩ : ∃ k, k = co - K := ⟨_, rfl⟩
            rw [← hdc] at hcutB hcutC
            have HM0 := Lib.hid (MineP.nil (Kept.refl (fun _ => False) wd))
            have HOB := Lib.hid (show ∀ k, (Value.slice (some ⟨go, oo, none⟩) i co).ownBlock = some k → k < wd.heap.size from fun k e => (ownsRow_lt HX2.out.own e).1)
            have HSZ := Lib.hid (show i ≤ 1000000 ∧ K ≤ 1000000 from ⟨by have := HL.out; have := HN.out; have := HD.out; omega, by have := HKI.out; have := HL.out; have := HN.out; have := HD.out; omega⟩)
            have HEL2 := Lib.hid (PElt.keptS HEL.out HK2.out (fun x => x))
            clear hpt hs1 htl hdl hK2 hKi2 hAD hdl2 hdc
            go_upto_region 10 with (at_builtin; refine wpList_mineP rfl (.tmp 33) (.tmp 36) rfl wd _ [] rfl HM0.out _ (A.take K) K HTL.out.1 rfl HS1.out (by have := HSZ.out; simp; omega) ?_; intro v1 w1 hm1 hk1; have HM1 := Lib.hid (show MineP wd w1 v1 (A.take K) by simpa using hm1); clear hm1 hk1)
            clear hcut hcutA
            have hx3 := HEL2.out.keptS HM1.out.kept (fun x => x)
            obtain ⟨x0, x1⟩ := hx3
            dsimp only at x0 x1
            have ke : Kept (fun _ => False) w1 (w1.alloc (.cells #[.string xk, .string xv] 101)) := (Kept.refl _ _).alloc _
            have HM1e := Lib.hid (HM1.out.on ke)
            have HSe := Lib.hid (src_oneP w1 ⟨xk, xv⟩)
            dsimp only at HSe
            clear ke
            go_upto_region 11 with (at_builtin; refine wpList_mineP rfl (.tmp 38) (.tmp 43) rfl wd _ (A.take K) rfl HM1e.out _ [⟨xk, xv⟩] 1 rfl rfl HSe.out (by have := HTL.out.1; have := HSZ.out; omega) ?_; intro v2 w2 hm2 hk2; have HM2 := Lib.hid hm2; clear hm2 hk2)
            clear x0 x1
            have HX3 := Lib.hid (HX2.out.on HM2.out.kept)
            have hdr := PsAt.drop HX3.out.at_ K (by rw [HAL.out]; exact HCO.out)
            rw [← HAD.out] at hdr
            have hs3 := PsAt.src (c := dc) hdr (fun _ => trivial)
            rw [HTL.out.2, ← HDL.out] at hs3
            have HS3 := Lib.hid hs3
            clear hdr hs3
            go_upto_region 4 with (at_builtin; refine wpList_mineP rfl (.tmp 45) (.tmp 48) rfl wd _ (A.take K ++ [(⟨xk, xv⟩ : Pr)]) rfl HM2.out _ (A.drop K) dl (by rw [HTL.out.2, HDL.out]) rfl HS3.out (by have h1 := HTL.out.1; have := HSZ.out; have := HDL.out; rw [List.length_append, h1]; simp; omega) ?_; intro v3 w3 hm3 hk3; have HM3 := Lib.hid hm3; clear hm3 hk3)
            have hfin : MineP w w3 v3 (sortP (L.take (i + 1))) := by
              have h := HM3.out.down (HX.out.kept.trans HK2.out)
              rw [HSC.out]
              unfold insP
              rw [HPE.out]
              rw [List.append_assoc] at h
              exact h
            have HFIN := Lib.hid hfin
            clear hfin
            go_wp2
            go_roundg (n - (i + 1))
            case measure => have := HD.out; omega
            case rel => exact ⟨i + 1, HD.out, rfl, rfl, HFIN.out⟩
    · obtain rfl : n = i := by omega
      rw [HT.out] at hx
      clear hd
      go_wp2
      go_ret
      exact ⟨_, rfl, hx⟩
end Go.Proofs.Ytiiibhdohlpodaa

-- AB
namespace Go.Proofs.Ytiiibhdohlpodaa
open Go.RowKit
attribute [local go_sem ↓] Go.wp_at_zero Go.wp_at_succ

/-- Two lists of attributes, the same? -/
def sameL (a b : List Pr) : Bool := decide (a.length = b.length ∧ ∀ i, i < a.length → eqP (a.getD i pr0) (b.getD i pr0) = true)
theorem sameL_iff (a b : List Pr) : sameL a b = true ↔ a = b := by
  constructor
  · intro h
    have h := of_decide_eq_true h
    refine List.ext_getElem h.1 fun i h1 h2 => ?_
    have := (eqP_iff _ _).1 (h.2 i h1)
    rwa [getD_pr (List.getElem?_eq_getElem h1), getD_pr (List.getElem?_eq_getElem h2)] at this
  · rintro rfl
    exact decide_eq_true ⟨rfl, fun i _ => (eqP_iff _ _).2 rfl⟩
theorem neq_pair (a b c d : ByteArray) (w : World) : (binOp .neq 101 (.agg #[.string a, .string b]) (.agg #[.string c, .string d])).run Try.prog w = .ok (.bool (!((a.toList == c.toList) && (b.toList == d.toList)))) w := by
  cases h1 : (a.toList == c.toList) <;> cases h2 : (b.toList == d.toList) <;> go_simp

set_option maxHeartbeats 4000000 in
theorem refSame11_any (ao bo : Option Addr) (c d : Nat) (L M : List Pr) (w : World) (hr : PsAt w ao L) (hs : PsAt w bo M) (hl : L.length ≤ 9223372036854775807) :
    Calls Try.prog 54 #[.slice ao L.length c, .slice bo M.length d] w fun e w' => e = .returned (.bool (sameL L M)) ∧ Kept (fun _ => False) w w' := by
  by_cases hne : L.length = M.length
  · have q : ((L.length : Int) != (M.length : Int)) = false := bneF (by omega)
    have q2 : (L.length != M.length) = false := by simp [hne]
    have HR := Lib.hid hr
    have HS := Lib.hid hs
    have HL := Lib.hid hl
    have HE := Lib.hid hne
    obtain ⟨n, hn⟩ : ∃ n, n = L.length := ⟨_, rfl⟩
    have HN := Lib.hid hn
    rw [← hne, ← hn] at q q2 ⊢
    clear hr hs hl hne hn
    go_enter Try.func54, Try.ntmps54
    go_wp2
    go_loopg [5] n (fun g s5 wr => ∃ i : Nat, i ≤ n ∧ g = n - i ∧ s5 = .int .i64 i ∧ Kept (fun _ => False) w wr ∧ ∀ j, j < i → eqP (L.getD j pr0) (M.getD j pr0) = true)
    case atStart => exact ⟨0, Nat.zero_le _, rfl, rfl, Kept.refl _ _, fun j hj => by omega⟩
    case round =>
      obtain ⟨i, hin, rfl, rfl, kw, ha⟩ := hrel
      have HA := Lib.hid ha
      have HK := Lib.hid kw.drew
      have HK0 := Lib.hid kw
      clear ha kw
      by_cases hd : i < n
      · have hdi : (i : Int) < (n : Int) := by omega
        have hi0 : (0 : Int) ≤ (i : Int) := by omega
        have HD := Lib.hid hd
        have wi : IntKind.i64.wrap ((i : Int) + 1) = ((i + 1 : Nat) : Int) := by rw [IntWalk.i64_in _ ⟨by omega, by have := HL.out; have := HN.out; omega⟩]; omega
        have hiL : i < L.length := by have := HN.out; omega
        have hiM : i < M.length := by have := HE.out; omega
        obtain ⟨ga, oa, rfl, hrec⟩ := HR.out (by omega)
        obtain ⟨gb, ob, rfl, hrec2⟩ := HS.out (by omega)
        have e1 := (hrec i L[i] (List.getElem?_eq_getElem hiL)).keptS HK.out (fun x => x)
        have e2 := (hrec2 i M[i] (List.getElem?_eq_getElem hiM)).keptS HK.out (fun x => x)
        have g1 := getD_pr (List.getElem?_eq_getElem hiL) pr0
        have g2 := getD_pr (List.getElem?_eq_getElem hiM) pr0
        obtain ⟨x, hx⟩ : ∃ p, p = L[i] := ⟨_, rfl⟩
        obtain ⟨y, hy⟩ : ∃ p, p = M[i] := ⟨_, rfl⟩
        rw [← hx] at e1 g1
        rw [← hy] at e2 g2
        obtain ⟨b, hb⟩ : ∃ b, b = eqP x y := ⟨_, rfl⟩
        have HG := Lib.hid (show eqP (L.getD i pr0) (M.getD i pr0) = b by rw [g1, g2, hb])
        have hnp := neq_pair x.k x.v y.k y.v
        rw [show ((x.k.toList == y.k.toList) && (x.v.toList == y.v.toList)) = b from hb.symm] at hnp
        obtain ⟨xk, xv⟩ := x
        obtain ⟨yk, yv⟩ := y
        dsimp only at hnp
        have HSS : Hid ((fun w' => w'.cell? ⟨ga, oa + i * 2, none⟩ = some (.string xk) ∧ w'.cell? ⟨ga, oa + i * 2 + 1, none⟩ = some (.string xv) ∧ w'.cell? ⟨gb, ob + i * 2, none⟩ = some (.string yk) ∧ w'.cell? ⟨gb, ob + i * 2 + 1, none⟩ = some (.string yv)) wr.drew) := Lib.hid ⟨e1.c0, e1.c1, e2.c0, e2.c1⟩
        clear hd hin hiL hiM hrec hrec2 e1 e2 g1 g2 hx hy hb
        go_upto_region 6 with fail
        refine AnyBut.start (S := fun w' => w'.cell? ⟨ga, oa + i * 2, none⟩ = some (.string xk) ∧ w'.cell? ⟨ga, oa + i * 2 + 1, none⟩ = some (.string xv) ∧ w'.cell? ⟨gb, ob + i * 2, none⟩ = some (.string yk) ∧ w'.cell? ⟨gb, ob + i * 2 + 1, none⟩ = some (.string yv)) (k := 9) (by kernel_rfl) ?_
        refine AnyBut.takeS (i := 0) (v := ?v1) rfl (by kernel_rfl) (Nat.le_of_eq (by kernel_rfl)) (by kernel_rfl) (by kernel_rfl) (fun _ _ _ h => h) (HSS.out) (Or.inl ⟨by kernel_rfl, ?hy1⟩) ?r1
        case hy1 =>
          intro w hSw
          try dsimp only at hSw
          go_simp
          try with_reducible rfl
        try simp only [Act.put, List.getElem_toArray, List.getElem_cons_zero, List.setIfInBounds_toArray, List.set_cons_zero, List.set_cons_succ]
        refine AnyBut.takeS (i := 1) (v := ?v2) rfl (by kernel_rfl) (Nat.le_of_eq (by kernel_rfl)) (by kernel_rfl) (by kernel_rfl) (fun _ _ _ h => h) (HSS.out) (Or.inl ⟨by kernel_rfl, ?hy2⟩) ?r2
        case hy2 =>
          intro w hSw
          try dsimp only at hSw
          go_simp
          try with_reducible rfl
        try simp only [Act.put, List.getElem_toArray, List.getElem_cons_succ, List.getElem_cons_zero, List.setIfInBounds_toArray, List.set_cons_zero, List.set_cons_succ]
        refine AnyBut.takeS (i := 2) (v := ?v3) rfl (by kernel_rfl) (Nat.le_of_eq (by kernel_rfl)) (by kernel_rfl) (by kernel_rfl) (fun _ _ _ h => h) (HSS.out) (Or.inl ⟨by kernel_rfl, ?hy3⟩) ?r3
        case hy3 =>
          intro w hSw
          try dsimp only at hSw
          go_simp
          try with_reducible rfl
        try simp only [Act.put, List.getElem_toArray, List.getElem_cons_succ, List.getElem_cons_zero, List.setIfInBounds_toArray, List.set_cons_zero, List.set_cons_succ]
        refine AnyBut.takeS (i := 3) (v := ?v4) rfl (by kernel_rfl) (Nat.le_of_eq (by kernel_rfl)) (by kernel_rfl) (by kernel_rfl) (fun _ _ _ h => h) (HSS.out) (Or.inl ⟨by kernel_rfl, ?hy4⟩) ?r4
        case hy4 =>
          intro w hSw
          try dsimp only at hSw
          go_simp
          try with_reducible rfl
        try simp only [Act.put, List.getElem_toArray, List.getElem_cons_succ, List.getElem_cons_zero, List.setIfInBounds_toArray, List.set_cons_zero, List.set_cons_succ]
        refine AnyBut.takeS (i := 4) (v := ?v5) rfl (by kernel_rfl) (Nat.le_of_eq (by kernel_rfl)) (by kernel_rfl) (by kernel_rfl) (fun _ _ _ h => h) (HSS.out) (Or.inl ⟨by kernel_rfl, ?hy5⟩) ?r5
        case hy5 =>
          intro w hSw
          try dsimp only at hSw
          go_simp
          try with_reducible rfl
        try simp only [Act.put, List.getElem_toArray, List.getElem_cons_succ, List.getElem_cons_zero, List.setIfInBounds_toArray, List.set_cons_zero, List.set_cons_succ]
        refine AnyBut.takeS (i := 5) (v := ?v6) rfl (by kernel_rfl) (Nat.le_of_eq (by kernel_rfl)) (by kernel_rfl) (by kernel_rfl) (fun _ _ _ h => h) (HSS.out) (Or.inl ⟨by kernel_rfl, ?hy6⟩) ?r6
        case hy6 =>
          intro w hSw
          try dsimp only at hSw
          go_simp
          try with_reducible rfl
        try simp only [Act.put, List.getElem_toArray, List.getElem_cons_succ, List.getElem_cons_zero, List.setIfInBounds_toArray, List.set_cons_zero, List.set_cons_succ]
        refine AnyBut.takeS (i := 6) (v := ?v7) rfl (by kernel_rfl) (Nat.le_of_eq (by kernel_rfl)) (by kernel_rfl) (by kernel_rfl) (fun _ _ _ h => h) (HSS.out) (Or.inl ⟨by kernel_rfl, ?hy7⟩) ?r7
        case hy7 =>
          intro w hSw
          try dsimp only at hSw
          go_simp
          try with_reducible rfl
        try simp only [Act.put, List.getElem_toArray, List.getElem_cons_succ, List.getElem_cons_zero, List.setIfInBounds_toArray, List.set_cons_zero, List.set_cons_succ]
        refine AnyBut.takeS (i := 7) (v := ?v8) rfl (by kernel_rfl) (Nat.le_of_eq (by kernel_rfl)) (by kernel_rfl) (by kernel_rfl) (fun _ _ _ h => h) (HSS.out) (Or.inl ⟨by kernel_rfl, ?hy8⟩) ?r8
        case hy8 =>
          intro w hSw
          try dsimp only at hSw
          go_simp
          try with_reducible rfl
        try simp only [Act.put, List.getElem_toArray, List.getElem_cons_succ, List.getElem_cons_zero, List.setIfInBounds_toArray, List.set_cons_zero, List.set_cons_succ]
        refine AnyBut.takeS (i := 8) (v := ?v9) rfl (by kernel_rfl) (Nat.le_of_eq (by kernel_rfl)) (by kernel_rfl) (by kernel_rfl) (fun _ _ _ h => h) (HSS.out) (Or.inl ⟨by kernel_rfl, ?hy9⟩) ?r9
        case hy9 =>
          intro w hSw
          try dsimp only at hSw
          go_simp
          try with_reducible rfl
        try simp only [Act.put, List.getElem_toArray, List.getElem_cons_succ, List.getElem_cons_zero, List.setIfInBounds_toArray, List.set_cons_zero, List.set_cons_succ]
        refine AnyBut.done (by kernel_rfl) ?_
        cases b with
        | true =>
          go_wp2
          go_roundg (n - (i + 1))
          case measure => have := HD.out; omega
          case rel => exact ⟨i + 1, HD.out, rfl, rfl, HK.out, all_succ HA.out HG.out⟩
        | false =>
          have HF : Hid (sameL L M = false) := Lib.hid (decide_eq_false (fun e => by have h := e.2 i (by have := HN.out; have := HD.out; omega); rw [HG.out] at h; cases h))
          go_wp2
          go_ret
          exact ⟨by rw [HF.out]; rfl, HK.out⟩
      · obtain rfl : n = i := by omega
        have HF : Hid (sameL L M = true) := Lib.hid (decide_eq_true ⟨HE.out, by rw [← HN.out]; exact HA.out⟩)
        clear hd
        go_wp2
        go_ret
        exact ⟨by rw [HF.out]; rfl, HK0.out⟩
  · have q : ((L.length : Int) != (M.length : Int)) = true := bneT (by omega)
    have q2 : (L.length != M.length) = true := by simp [hne]
    have HF : Hid (sameL L M = false) := Lib.hid (decide_eq_false (fun e => hne e.1))
    clear hr hs hl hne
    go_enter Try.func54, Try.ntmps54
    go_wp2
    go_ret
    exact ⟨by rw [HF.out]; rfl, Kept.refl _ _⟩
end Go.Proofs.Ytiiibhdohlpodaa

-- AC
namespace Go.Proofs.Ytiiibhdohlpodaa
open Go.RowKit
attribute [local go_sem ↓] Go.wp_at_zero Go.wp_at_succ

def c59 : ByteArray := { data := #[59] }
def c61 : ByteArray := { data := #[61] }
/-- An attribute's part of a text. -/
def partP (p : Pr) : ByteArray := ((c59 ++ p.k) ++ c61) ++ p.v
/-- The text of a name and so many attributes. -/
def textN (name : ByteArray) (M : List Pr) : Nat → ByteArray
  | 0 => name
  | i + 1 => textN name M i ++ partP (M.getD i pr0)
theorem size_append (a b : ByteArray) : (a ++ b).size = a.size + b.size := ByteArray.size_append
theorem partP_size (p : Pr) : (partP p).size = p.k.size + p.v.size + 2 := by
  unfold partP
  rw [size_append, size_append, size_append]
  have h1 : c59.size = 1 := rfl
  have h2 : c61.size = 1 := rfl
  omega
theorem app_assoc (a b c : ByteArray) : (a ++ b) ++ c = a ++ (b ++ c) := by
  apply bytes_eq
  rw [ByteArray.toList_eq, ByteArray.toList_eq]
  simp
theorem textN_succ2 (s : ByteArray) (p : Pr) : (((s ++ c59) ++ p.k) ++ c61) ++ p.v = s ++ partP p := by
  unfold partP
  simp only [app_assoc]
theorem textN_size (name : ByteArray) (M : List Pr) (i : Nat) (hM : Sh 1000 M) (hi : i ≤ M.length) : (textN name M i).size ≤ name.size + i * 2002 := by
  induction i with
  | zero => unfold textN; omega
  | succ i ih =>
    unfold textN
    rw [size_append, partP_size, getD_pr (List.getElem?_eq_getElem (by omega))]
    have := ih (by omega)
    have := hM _ (List.getElem_mem (show i < M.length by omega))
    omega
/-- A label's text, or what is wrong with it. -/
def textT (name : ByteArray) (L : List Pr) : ByteArray × Nat := if checkE name L ≠ 0 then (ByteArray.empty, checkE name L) else (textN name (sortP L) L.length, 0)
theorem faults_le (L : List Pr) (k : Nat) : faults L k ≤ 8 := by
  induction k with
  | zero => exact Nat.zero_le _
  | succ k ih =>
    unfold faults
    split
    · exact ih
    · unfold faultAt
      split
      · split <;> omega
      · omega
theorem checkE_few {name : ByteArray} {L : List Pr} (h : checkE name L = 0) : L.length ≤ 4 := by
  unfold checkE at h
  split at h
  · split at h
    · cases h
    · omega
  · cases h
theorem Sh.mono {a b : Nat} {L : List Pr} (h : Sh a L) (hb : a ≤ b) : Sh b L := fun p hp => ⟨Nat.le_trans (h p hp).1 hb, Nat.le_trans (h p hp).2 hb⟩
theorem sh_sort {a : Nat} {L : List Pr} (h : Sh a L) : Sh a (sortP L) := fun p hp => h p (sortP_mem.1 hp)

end Go.Proofs.Ytiiibhdohlpodaa

-- AD
namespace Go.Proofs.Ytiiibhdohlpodaa
open Go.RowKit
attribute [local go_sem ↓] Go.wp_at_zero Go.wp_at_succ

end Go.Proofs.Ytiiibhdohlpodaa

-- AE
namespace Go.Proofs.Ytiiibhdohlpodaa
open Go.RowKit
attribute [local go_sem ↓] Go.wp_at_zero Go.wp_at_succ

/-- Where a byte is first; -1: nowhere. -/
def ixB (s : ByteArray) (c : UInt8) : Int := Lib.indexByte s.toList c
theorem ixB_cases (s : ByteArray) (c : UInt8) : ixB s c = -1 ∨ ∃ o : Nat, ixB s c = o ∧ o < s.size := by
  have key : ∀ l : List UInt8, Lib.indexByte l c = -1 ∨ ∃ o : Nat, Lib.indexByte l c = o ∧ o < l.length := by
    intro l
    induction l with
    | nil => exact .inl rfl
    | cons b l ih =>
      unfold Lib.indexByte
      by_cases hb : (b == c) = true
      · rw [if_pos hb]; exact .inr ⟨0, rfl, by simp⟩
      · rw [if_neg hb]
        rcases ih with h | ⟨o, h, ho⟩
        · rw [h]; exact .inl rfl
        · rw [h, if_neg (by simp)]
          exact .inr ⟨o + 1, by simp, by simp; omega⟩
  have := key s.toList
  rw [toList_size] at this
  exact this
/-- A text cut at the first such byte: what is ahead, what is behind, and whether there is one. -/
def cutS (s : ByteArray) (c : UInt8) : ByteArray × ByteArray × Bool := if ixB s c = -1 then (s, ByteArray.empty, false) else (s.extract 0 (ixB s c).toNat, s.extract ((ixB s c).toNat + 1) s.size, true)
theorem bytes_extract_len (s : ByteArray) (i : Nat) : (s.extract (i + 1) s.size).size = s.size - (i + 1) := by
  simp [ByteArray.size_extract]
end Go.Proofs.Ytiiibhdohlpodaa

-- AF
namespace Go.Proofs.Ytiiibhdohlpodaa
open Go.RowKit
attribute [local go_sem ↓] Go.wp_at_zero Go.wp_at_succ

theorem run_make1 {P : Program} {t e : TypeId} {i : TypeInfo} {z : Value} (ht : P.underlying t = some (.slice e)) (hi : P.info? e = some i) (hz : i.zero = some z) (hs : i.size = 1) (hzc : z.cells = #[z]) (hb : i.bytes ≤ 64) (n : Nat) (hn : n ≤ 1000000) (w : World) :
    (Instr.makeSlice t (.int .i64 (n : Int)) (.int .i64 (n : Int))).run P w = .ok (.slice (some ⟨w.heap.size, 0, none⟩) n n) (w.alloc (.cells (Array.replicate n z) e)) := by
  have hbn : (i.bytes : Int) * (n : Int) ≤ 64 * 1000000 := by
    have : i.bytes * n ≤ 64 * 1000000 := Nat.mul_le_mul hb hn
    have h2 : ((i.bytes * n : Nat) : Int) ≤ 64 * 1000000 := by omega
    rwa [Int.natCast_mul] at h2
  have hr := run_makeSlice (P := P) w t e i z ht hi hz .i64 .i64 (n : Int) (n : Int) (by omega) (Int.le_refl _) (by rw [hs]; omega) (by omega) (by omega)
  rw [hr]
  simp only [Int.toNat_natCast]
  have e : madeCells z.cells (n * i.size) = Array.replicate n z := by
    rw [hs, Nat.mul_one, hzc]
    apply Array.toList_inj.1
    rw [toList_madeCells_one]; simp
  rw [e]
theorem mine_made {W w : World} (hk : Kept (fun _ => False) W w) (n : Nat) (z : Value) (E : TypeId) (hn : n ≤ maxLen) : Mine W (w.alloc (.cells (Array.replicate n z) E)) E (.slice (some ⟨w.heap.size, 0, none⟩) n n) (List.replicate n z) := by
  refine ⟨⟨by simp, .inr ⟨w.heap.size, n, _, by simp, hk.size, heap_alloc_new w _, by simp, hn, by simp, ?_⟩⟩, hk.alloc _⟩
  simp
theorem uvals_set (l : List Nat) (j x : Nat) : (uvals l).set j (.int .u64 (x : Int)) = uvals (l.set j x) := by unfold uvals; rw [List.map_set]
theorem uvals_replicate (n : Nat) : uvals (List.replicate n 0) = List.replicate n (.int .u64 0) := by unfold uvals; rw [List.map_replicate]; rfl
/-- A text's parts between such bytes, so many cuts at most. -/
def splitS (c : UInt8) : Nat → ByteArray → List ByteArray
  | 0, s => [s]
  | k + 1, s => if ixB s c = -1 then [s] else s.extract 0 (ixB s c).toNat :: splitS c k (s.extract ((ixB s c).toNat + 1) s.size)
theorem splitS_none {c : UInt8} {s : ByteArray} (k : Nat) (h : ixB s c = -1) : splitS c k s = [s] := by cases k with | zero => rfl | succ k => exact if_pos h
/-- All of a text's parts. -/
def splitA (c : UInt8) (s : ByteArray) : List ByteArray := splitS c (s.toList.count c) s
theorem own_unfrozen {w : World} {B : Nat} {E : TypeId} {g n c s : Nat} {xs : List Value} (h : w.ownsRow B E s (.slice (some ⟨g, 0, none⟩) n c) n xs) (k : Nat) : w.frozen? ⟨g, k, none⟩ = false := by
  rcases h.2 with ⟨e, _⟩ | ⟨g1, cap, cur, e, hg, hb, rest⟩
  · cases e
  · injection e with e1 e2 e3
    injection e1 with e1
    injection e1 with e1
    subst e1
    simp [World.frozen?, hb]
theorem own_len {w : World} {B : Nat} {E : TypeId} {v : Value} {n : Nat} {xs : List Value} (h : w.ownsRow B E 1 v n xs) : xs.length = n := by have := h.1; omega
theorem own_cell {w : World} {B : Nat} {E : TypeId} {g n c : Nat} {xs : List Value} (h : w.ownsRow B E 1 (.slice (some ⟨g, 0, none⟩) n c) n xs) {k : Nat} (hk : k < n) : ∃ u, w.cell? ⟨g, k, none⟩ = some u := by
  have hl := own_len h
  have := h.cells (g := g) rfl k xs[k] (List.getElem?_eq_getElem (by omega))
  rw [addr_add0] at this
  exact ⟨_, this⟩
theorem Try.infoStr : (Try.prog.info? 9).map (fun i => (i.zero, i.size, i.bytes)) = some (some (.string ByteArray.empty), 1, 16) := by kernel_rfl
theorem extract_le (s : ByteArray) (a b : Nat) : (s.extract a b).size ≤ s.size := by simp [ByteArray.size_extract]; omega

end Go.Proofs.Ytiiibhdohlpodaa

-- AG
namespace Go.Proofs.Ytiiibhdohlpodaa
open Go.RowKit
attribute [local go_sem ↓] Go.wp_at_zero Go.wp_at_succ

theorem pair_info : (Try.prog.info? 101).map (·.size) = some 2 := by kernel_rfl
/-- An attribute in its block. -/
def PBox (w : World) (q : Nat) (p : Pr) : Prop := w.heap[q]? = some (.cells #[.string p.k, .string p.v] 101 (0, 0))
theorem PBox.same {S : Nat → Prop} {w w' : World} {q : Nat} {p : Pr} (b : PBox w q p) (hk : Kept S w w') (hn : ¬ S q) : PBox w' q p := hk.same b hn
theorem PBox.fz {w : World} {q : Nat} {p : Pr} (b : PBox w q p) (j : Nat) : w.frozen? ⟨q, j, none⟩ = false := by unfold PBox at b; simp [World.frozen?, b]
theorem PBox.set {w : World} {q : Nat} {p : Pr} (b : PBox w q p) (p' : Pr) : PBox ((w.setCell ⟨q, 0, none⟩ (.string p'.k)).setCell ⟨q, 1, none⟩ (.string p'.v)) q p' := by
  unfold PBox at *; simp [World.setCell, Array.getElem?_modify, b]
theorem set2_keptP (w : World) (q : Nat) (x y : Value) : Kept (fun k => k = q) w ((w.setCell ⟨q, 0, none⟩ x).setCell ⟨q, 1, none⟩ y) :=
  ((Kept.refl (fun k => k = q) w).setCell (p := ⟨q, 0, none⟩) (fun _ => rfl) x).setCell (p := ⟨q, 1, none⟩) (fun _ => rfl) y
theorem pair_end {fn : Func} {p0 s : Tmp} {a : Act} {P : Ending → World → Prop} {w : World} {q : Nat} {p : Pr} {x : Value} (hres : fn.results = #[.cell p0 101, .tmp s]) (hp : a.tmps.getD p0 undef = .pointer (some ⟨q, 0, none⟩)) (hx : a.tmps.getD s undef = x) (hd : a.defers = [])
    (hg : PBox w q p) (hP : P (.returned (.tuple #[.agg #[.string p.k, .string p.v], x])) w) : bodyPost Try.prog fn P .ret a w := by
  refine bodyPost_ret (v := .tuple #[.agg #[.string p.k, .string p.v], x]) ?_ hd hP
  have hp' : a.tmps[p0]?.getD undef = .pointer (some ⟨q, 0, none⟩) := by simpa using hp
  have hx' : a.tmps[s]?.getD undef = x := by simpa using hx
  have hl := run_loadVar_row (P := Try.prog) w q 101 101 _ (0, 0) _ hg Try.underlying101 rfl pair_info
  simp [results, hres, hp', hx', asAddr, hl]
/-- The attribute that a part tells behind those ahead of it, and what is wrong with it. -/
def nextE (A : List Pr) (part : ByteArray) : Pr × Nat :=
  if A.length = 4 then (pr0, 4)
  else if (cutS part 61).2.2 = true ∧ nameB (cutS part 61).1 = true ∧ valueB (cutS part 61).2.1 = true then
    if hasB A (cutS part 61).1 = true then (pr0, 8)
    else if 0 < A.length ∧ ltS (cutS part 61).1 (A.getD (A.length - 1) pr0).k = true then (pr0, 9)
    else (⟨(cutS part 61).1, (cutS part 61).2.1⟩, 0)
  else (pr0, 3)
theorem cutS_size (s : ByteArray) (c : UInt8) : (cutS s c).1.size ≤ s.size ∧ (cutS s c).2.1.size ≤ s.size := by
  unfold cutS
  split
  · exact ⟨Nat.le_refl _, Nat.zero_le _⟩
  · exact ⟨extract_le _ _ _, extract_le _ _ _⟩

end Go.Proofs.Ytiiibhdohlpodaa

-- RS
namespace Go.Proofs.Ytiiibhdohlpodaa
open Go.RowKit
attribute [local go_sem ↓] Go.wp_at_zero Go.wp_at_succ

theorem results_tmp4 {fn : Func} {t u v x : Tmp} (h : fn.results = #[.tmp t, .tmp u, .tmp v, .tmp x]) (tmps : Array Value) (P : Program) (w : World) :
    (results fn tmps).run P w = .ok (.tuple #[tmps.getD t undef, tmps.getD u undef, tmps.getD v undef, tmps.getD x undef]) w := by
  simp [results, h]
theorem results_ct {P : Program} {fn : Func} {p t : Tmp} {ty : TypeId} (h : fn.results = #[.cell p ty, .tmp t]) (tmps : Array Value) (w : World) (g : Nat) (t' : TypeId) (cs : Array Value) (fr : Nat × Nat) (d : TypeDesc)
    (hp : tmps.getD p undef = .pointer (some ⟨g, 0, none⟩)) (hg : w.heap[g]? = some (.cells cs t' fr))
    (hu : P.underlying ty = some d) (hd : (match d with | .struct _ | .array _ _ => true | _ => false) = true) (hi : (P.info? ty).map (·.size) = some cs.size) :
    (results fn tmps).run P w = .ok (.tuple #[.agg cs, tmps.getD t undef]) w := by
  have hp' : tmps[p]?.getD undef = .pointer (some ⟨g, 0, none⟩) := by simpa using hp
  simp [results, h, hp', asAddr, run_loadVar_row w g t' ty cs fr d hg hu hd hi]
theorem results_ctt {P : Program} {fn : Func} {p t u : Tmp} {ty : TypeId} (h : fn.results = #[.cell p ty, .tmp t, .tmp u]) (tmps : Array Value) (w : World) (g : Nat) (t' : TypeId) (cs : Array Value) (fr : Nat × Nat) (d : TypeDesc)
    (hp : tmps.getD p undef = .pointer (some ⟨g, 0, none⟩)) (hg : w.heap[g]? = some (.cells cs t' fr))
    (hu : P.underlying ty = some d) (hd : (match d with | .struct _ | .array _ _ => true | _ => false) = true) (hi : (P.info? ty).map (·.size) = some cs.size) :
    (results fn tmps).run P w = .ok (.tuple #[.agg cs, tmps.getD t undef, tmps.getD u undef]) w := by
  have hp' : tmps[p]?.getD undef = .pointer (some ⟨g, 0, none⟩) := by simpa using hp
  simp [results, h, hp', asAddr, run_loadVar_row w g t' ty cs fr d hg hu hd hi]

end Go.Proofs.Ytiiibhdohlpodaa

-- AH
namespace Go.Proofs.Ytiiibhdohlpodaa
open Go.RowKit
attribute [local go_sem ↓] Go.wp_at_zero Go.wp_at_succ

/-- How far attributes are read, of so many parts: the attributes, the place, the first fault. -/
def prsN (at0 : Nat) (parts : List ByteArray) : Nat → List Pr × Nat × Nat
  | 0 => ([], at0, 0)
  | k + 1 =>
    let s := prsN at0 parts k
    if s.2.2 ≠ 0 then s
    else
      let r := nextE s.1 (parts.getD k ByteArray.empty)
      if r.2 ≠ 0 then (s.1, s.2.1, r.2) else (s.1 ++ [r.1], s.2.1 + (parts.getD k ByteArray.empty).size + 1, 0)
theorem prsN_stop {at0 : Nat} {parts : List ByteArray} {k : Nat} (h : (prsN at0 parts k).2.2 ≠ 0) (j : Nat) : prsN at0 parts (k + j) = prsN at0 parts k := by
  induction j with
  | zero => rfl
  | succ j ih =>
    rw [← Nat.add_assoc, prsN]
    dsimp only
    rw [ih, if_pos h]
theorem prsN_good {at0 : Nat} {parts : List ByteArray} {k at_ : Nat} {A : List Pr} (h : prsN at0 parts k = (A, at_, 0)) (hr : (nextE A (parts.getD k ByteArray.empty)).2 = 0) : prsN at0 parts (k + 1) = (A ++ [(nextE A (parts.getD k ByteArray.empty)).1], at_ + (parts.getD k ByteArray.empty).size + 1, 0) := by
  rw [prsN]
  dsimp only
  rw [h]
  dsimp only
  rw [if_neg (fun e => e rfl), if_neg (fun e => e hr)]
theorem prsN_bad {at0 : Nat} {parts : List ByteArray} {k n at_ : Nat} {A : List Pr} (h : prsN at0 parts k = (A, at_, 0)) (hr : (nextE A (parts.getD k ByteArray.empty)).2 ≠ 0) (hk : k < n) : (prsN at0 parts n).2 = (at_, (nextE A (parts.getD k ByteArray.empty)).2) := by
  have h1 : prsN at0 parts (k + 1) = (A, at_, (nextE A (parts.getD k ByteArray.empty)).2) := by
    rw [prsN]
    dsimp only
    rw [h]
    dsimp only
    rw [if_neg (fun e => e rfl), if_pos hr]
  have h2 := prsN_stop (at0 := at0) (parts := parts) (k := k + 1) (by rw [h1]; exact hr) (n - (k + 1))
  rw [Nat.add_sub_cancel' hk] at h2
  rw [h2, h1]
/-- The label whose text that is: name, attributes, place, fault. -/
def parseL (s : ByteArray) : ByteArray × List Pr × Nat × Nat :=
  let parts := splitA 59 s
  let name := parts.headD ByteArray.empty
  if nameB name = true then
    let r := prsN (name.size + 1) parts.tail parts.tail.length
    if r.2.2 ≠ 0 then (ByteArray.empty, [], r.2.1, r.2.2) else (name, r.1, 0, 0)
  else (ByteArray.empty, [], 0, 3)
theorem splitS_sizes (c : UInt8) (k : Nat) (s : ByteArray) : ∀ p ∈ splitS c k s, p.size ≤ s.size := by
  induction k generalizing s with
  | zero => intro p hp; rw [splitS, List.mem_singleton] at hp; rw [hp]; exact Nat.le_refl _
  | succ k ih =>
    intro p hp
    rw [splitS] at hp
    split at hp
    · rw [List.mem_singleton] at hp; rw [hp]; exact Nat.le_refl _
    · rcases List.mem_cons.1 hp with h | h
      · rw [h]; exact extract_le _ _ _
      · exact Nat.le_trans (ih _ p h) (extract_le _ _ _)
theorem splitS_ne (c : UInt8) (k : Nat) (s : ByteArray) : splitS c k s ≠ [] := by
  cases k with
  | zero => rw [splitS]; exact List.cons_ne_nil _ _
  | succ k => rw [splitS]; split <;> exact List.cons_ne_nil _ _
theorem splitS_len (c : UInt8) (k : Nat) (s : ByteArray) : (splitS c k s).length ≤ k + 1 := by
  induction k generalizing s with
  | zero => exact Nat.le_refl _
  | succ k ih =>
    rw [splitS]
    split
    · simp
    · rw [List.length_cons]; have := ih (s.extract ((ixB s c).toNat + 1) s.size); omega
theorem nextE_few {A : List Pr} {part : ByteArray} (h4 : A.length ≤ 4) (h : (nextE A part).2 = 0) : A.length < 4 := by
  rcases Nat.lt_or_ge A.length 4 with h1 | h1
  · exact h1
  · exfalso
    unfold nextE at h
    rw [if_pos (by omega)] at h
    cases h
theorem strs_get {l : List ByteArray} {i : Nat} (h : i < l.length) : (l.map Value.string)[i]? = some (.string (l.getD i ByteArray.empty)) := by
  rw [List.getElem?_map, List.getElem?_eq_getElem h, List.getD_eq_getElem?_getD, List.getElem?_eq_getElem h]; rfl

end Go.Proofs.Ytiiibhdohlpodaa

-- AI
namespace Go.Proofs.Ytiiibhdohlpodaa
open Go.RowKit
attribute [local go_sem ↓] Go.wp_at_zero Go.wp_at_succ

theorem aw_text : textT { data := #[99, 112, 117] } [⟨{ data := #[98] }, { data := #[50] }⟩, ⟨{ data := #[97] }, { data := #[49] }⟩] = ({ data := #[99, 112, 117, 59, 97, 61, 49, 59, 98, 61, 50] }, 0) := by decide +kernel
theorem aw_parse : (parseL { data := #[99, 112, 117, 59, 98, 61, 50, 59, 97, 61, 49] }).2.2 = (8, 9) := by decide +kernel
theorem textT_snd (name : ByteArray) (L : List Pr) : (textT name L).2 = checkE name L := by
  unfold textT
  by_cases h : checkE name L = 0
  · rw [if_neg (fun e => e h), h]
  · rw [if_pos h]
def awL : List Pr := [⟨{ data := #[98] }, { data := #[50] }⟩, ⟨{ data := #[97] }, { data := #[49] }⟩]
theorem awL_sh : Sh 1000 awL := by
  intro p hp
  simp only [awL, List.mem_cons, List.not_mem_nil, or_false] at hp
  rcases hp with rfl | rfl <;> exact ⟨by decide, by decide⟩
end Go.Proofs.Ytiiibhdohlpodaa

-- R2
namespace Go.Proofs.Ytiiibhdohlpodaa
open Go.ChangeShapes Go.WideShapes Go.ChangeAt Go.RowKit Go.Deep

theorem trod_row {H : Type} {enc : TypeId × Value → H} {P : Program} {T E : TypeId} {k : IntKind} {W : World} {sp n : Nat} {v : Value} {y : DataW H × List MemPlace}
    (hT : P.underlying T = some (.slice E)) (hE : P.underlying E = some (.int k)) (hc : P.cellsOf E = 1) (h : DataW.trod enc P W sp (fun _ => true) true n T [v] = some y) : ∃ ao len cap zs, v = .slice ao len cap ∧ IsRow k W ao len cap zs := by
  rcases open_ints hT hE hc h with ⟨hcs, _⟩ | ⟨x, l, c, zs, hcs, _, hl, hm, hz, _, hcell, hwz⟩
  · injection hcs with e _
    exact ⟨none, 0, 0, [], e, .inl ⟨rfl, rfl, rfl, rfl⟩⟩
  · injection hcs with e _
    exact ⟨some x, l, c, zs, e, .inr ⟨_, rfl, hl, hm, by simpa using hz, hcell, hwz⟩⟩
theorem trod_i64 {H : Type} {enc : TypeId × Value → H} {P : Program} {T : TypeId} {k : IntKind} {W : World} {sp n : Nat} {v : Value} {y : DataW H × List MemPlace}
    (hT : P.underlying T = some (.int k)) (h : DataW.trod enc P W sp (fun _ => true) true n T [v] = some y) : ∃ x, v = .int k x ∧ (Lit.int k x).wf = true := by
  obtain ⟨x, e, _, hw⟩ := DataW.trod_int hT h
  injection e with e _
  exact ⟨x, e, hw⟩
theorem wf_u8 (x : Int) (h : (Lit.int .u8 x).wf = true) : 0 ≤ x ∧ x < (256 : Nat) := by
  have := bd_u8 h; omega
theorem isRow_cap {k : IntKind} {w : World} {a : Option Addr} {len cap : Nat} {zs : List Int} (h : IsRow k w a len cap zs) : len ≤ cap ∧ cap ≤ maxLen := by
  rcases h with ⟨rfl, rfl, rfl, rfl⟩ | ⟨x, rfl, hlc, hm, _⟩
  · exact ⟨Nat.le_refl _, by unfold maxLen; omega⟩
  · exact ⟨hlc, hm⟩
theorem choose_list {α : Type} {n : Nat} {P : Nat → α → Prop} (h : ∀ i, i < n → ∃ r, P i r) : ∃ l : List α, l.length = n ∧ ∀ i r, l[i]? = some r → P i r := by
  induction n with
  | zero => exact ⟨[], rfl, by simp⟩
  | succ n ih =>
    obtain ⟨l, hl, hp⟩ := ih (fun i hi => h i (by omega))
    obtain ⟨r, hr⟩ := h n (by omega)
    refine ⟨l ++ [r], by simp [hl], fun i r' hi => ?_⟩
    rw [List.getElem?_append] at hi
    split at hi
    · exact hp i r' hi
    · rename_i h1
      have h2 : i - l.length = 0 := by
        rcases Nat.eq_zero_or_pos (i - l.length) with h | h
        · exact h
        · rw [List.getElem?_eq_none (by simp; omega)] at hi; cases hi
      rw [h2] at hi
      simp at hi
      have h3 : i = n := by omega
      subst hi; rw [h3]; exact hr
/-- A new block whose cells are a row's. -/
theorem own_fresh (w : World) (E : TypeId) (s : Nat) (xs : List Value) (n : Nat) (hl : xs.length = n * s) (hm : n ≤ maxLen) : (w.alloc (.cells xs.toArray E)).ownsRow w.heap.size E s (.slice (some ⟨w.heap.size, 0, none⟩) n n) n xs :=
  ⟨hl, .inr ⟨w.heap.size, n, _, rfl, Nat.le_refl _, heap_alloc_new w _, Nat.le_refl _, hm, by simp [hl], by rw [← hl]; simp⟩⟩
end Go.Proofs.Ytiiibhdohlpodaa

-- AJ
namespace Go.Proofs.Ytiiibhdohlpodaa
open Go.ChangeShapes Go.WideShapes Go.ChangeAt Go.Deep Go.RowKit

def NoTab (_ : World) : Prop := True
theorem notab_of_laid {W : World} {p : Prop} (_ : p) : NoTab W := trivial
/-- Attributes that came in. -/
structure PairsIn (W : World) (ao : Option Addr) (cap : Nat) (L : List Pr) : Prop where
  at_ : PsAt W ao L
  sh : Sh maxLen L
  cap : L.length ≤ cap

theorem pair_at_cells {H : Type} {enc : TypeId × Value → H} {W : World} {sp n : Nat} {c0 c1 : Value} {y : DataW H × List MemPlace} (hf : DataW.trod enc Try.prog W sp (fun _ => true) true n 101 [c0, c1] = some y) :
    ∃ p : Pr, (c0 = .string p.k ∧ c1 = .string p.v) ∧ p.k.size ≤ maxLen ∧ p.v.size ≤ maxLen := by
  obtain ⟨y0, y1, m, _, _, h0, h1⟩ := trod_struct2 Try.underlying101 (cs := [c0, c1]) hf
  have k0 : Try.prog.cellsOf 9 = 1 := by kernel_rfl
  simp only [k0, List.drop_zero, List.drop_succ_cons, List.take_succ_cons, List.take_zero] at h0 h1
  obtain ⟨s, e0, _, w0⟩ := DataW.trod_string Try.underlying9 h0
  obtain ⟨t, e1, _, w1⟩ := DataW.trod_string Try.underlying9 h1
  injection e0 with e0 _
  injection e1 with e1 _
  subst e0 e1
  exact ⟨⟨s, t⟩, ⟨rfl, rfl⟩, w0, w1⟩

set_option maxRecDepth 100000 in
theorem pairs_of {H : Type} {enc : TypeId × Value → H} {W : World} {sp : Nat} {a : Option Addr} {len cap : Nat} {d : DataW H} {p : List MemPlace}
    (h : DataW.Trod enc Try.prog W sp (fun _ => true) true 35 (.slice a len cap) d p) : ∃ L : List Pr, L.length = len ∧ PairsIn W a cap L ∧ len ≤ cap ∧ len ≤ 9223372036854775807 := by
  obtain ⟨fuel, hf⟩ := h
  have k2 : Try.prog.cellsOf 101 = 2 := by kernel_rfl
  rcases open_slice Try.underlying35 hf with ⟨hcs, _⟩ | ⟨x, l, c, m, n, D, Pl, hcs, _, hl, hm, hmm, _, hi⟩
  · simp [Value.cells] at hcs
    obtain ⟨rfl, rfl, rfl⟩ := hcs
    exact ⟨[], rfl, ⟨fun h => absurd h (by simp), fun p hp => (by cases hp), Nat.zero_le _⟩, Nat.le_refl _, by omega⟩
  · simp [Value.cells] at hcs
    obtain ⟨rfl, rfl, rfl⟩ := hcs
    unfold maxLen at hm
    rcases Nat.eq_zero_or_pos len with h0 | h0
    · subst h0
      exact ⟨[], rfl, ⟨fun h => absurd h (by simp), fun p hp => (by cases hp), Nat.zero_le _⟩, by omega, by omega⟩
    · have key0 : ∀ i, i < len → ∃ q : Pr, (∀ j u, (([.string q.k, .string q.v] : List Value)[j]? = some u) → W.cell? (x.add (i * 2 + j)) = some u) ∧ q.k.size ≤ maxLen ∧ q.v.size ≤ maxLen := by
        intro i hi'
        obtain ⟨cs', hc, ht'⟩ := hi i (by simp at hmm; omega)
        rw [k2] at hc
        obtain ⟨hlen, hcl, hat⟩ := World.cells?_some hc
        match cs', hcl with
        | [c0, c1], _ =>
          obtain ⟨q, ⟨e0, e1⟩, hq⟩ := pair_at_cells ht'
          subst e0 e1
          refine ⟨q, fun j u hj => ?_, hq⟩
          have hj2 : j < 2 := by
            have := (List.getElem?_eq_some_iff.1 hj).1
            simpa using this
          have := hat j hj2
          rw [Go.Deep.add_add] at this
          rw [this]
          exact hj
      obtain ⟨g, o, spot⟩ := x
      have hspot : spot = Option.none := by
        obtain ⟨q, hq, _⟩ := key0 0 h0
        have c0 := hq 0 _ rfl
        simpa [Addr.add] using World.cell?_spot c0
      subst hspot
      have key : ∀ i, i < len → ∃ q : Pr, PElt W g (o + i * 2) q ∧ q.k.size ≤ maxLen ∧ q.v.size ≤ maxLen := by
        intro i hi'
        obtain ⟨q, hq, h1⟩ := key0 i hi'
        refine ⟨q, ⟨?_, ?_⟩, h1⟩
        · have := hq 0 _ rfl; rwa [Go.WideShapes.add_plain] at this
        · have := hq 1 _ rfl; rwa [Go.WideShapes.add_plain] at this
      obtain ⟨rs, hrs, hp⟩ := choose_list key
      refine ⟨rs, hrs, ⟨fun _ => ⟨g, o, rfl, fun i p hi => (hp i p hi).1⟩, fun p hpm => ?_, by omega⟩, hl, by omega⟩
      obtain ⟨i, hi, e⟩ := List.getElem_of_mem hpm
      exact (hp i p (by rw [List.getElem?_eq_getElem hi, e])).2
end Go.Proofs.Ytiiibhdohlpodaa

-- AK
namespace Go.Proofs.Ytiiibhdohlpodaa
open Go.RowKit

theorem toList_append (a b : ByteArray) : (a ++ b).toList = a.toList ++ b.toList := by
  rw [ByteArray.toList_eq, ByteArray.toList_eq, ByteArray.toList_eq]; simp
theorem toList_extract (s : ByteArray) (i j : Nat) : (s.extract i j).toList = (s.toList.take j).drop i := by
  rw [ByteArray.toList_eq, ByteArray.toList_eq]
  simp [List.drop_take]
/-- A byte stands nowhere in a text. -/
def noB (c : UInt8) (s : ByteArray) : Prop := ∀ b ∈ s.toList, b ≠ c
theorem noB_append {c : UInt8} {a b : ByteArray} (h1 : noB c a) (h2 : noB c b) : noB c (a ++ b) := by
  intro x hx
  rw [toList_append] at hx
  rcases List.mem_append.1 hx with h | h
  · exact h1 x h
  · exact h2 x h
theorem indexByte_no {l : List UInt8} {c : UInt8} (h : ∀ b ∈ l, b ≠ c) : Lib.indexByte l c = -1 := by
  induction l with
  | nil => rfl
  | cons b l ih =>
    unfold Lib.indexByte
    rw [if_neg (by rw [beq_iff_eq]; exact h b List.mem_cons_self), ih (fun x hx => h x (List.mem_cons_of_mem _ hx))]
    rfl
theorem indexByte_at {l m : List UInt8} {c : UInt8} (h : ∀ b ∈ l, b ≠ c) : Lib.indexByte (l ++ c :: m) c = l.length := by
  induction l with
  | nil => unfold Lib.indexByte; rw [List.nil_append]; simp
  | cons b l ih =>
    rw [List.cons_append]
    unfold Lib.indexByte
    rw [if_neg (by rw [beq_iff_eq]; exact h b List.mem_cons_self), ih (fun x hx => h x (List.mem_cons_of_mem _ hx)), if_neg (by simp)]
    simp
theorem ixB_no {s : ByteArray} {c : UInt8} (h : noB c s) : ixB s c = -1 := indexByte_no h
theorem ixB_at {a b : ByteArray} {c : UInt8} (h : noB c a) : ixB (a ++ (({ data := #[c] } : ByteArray) ++ b)) c = a.size := by
  unfold ixB
  rw [toList_append, toList_append, show ({ data := #[c] } : ByteArray).toList = [c] from ByteArray.toList_mk [c], List.cons_append, List.nil_append, indexByte_at h, toList_size]
theorem cut_left (a b : ByteArray) : (a ++ b).extract 0 a.size = a := by
  apply bytes_eq
  rw [toList_extract, toList_append, List.drop_zero, ← toList_size, List.take_left]
theorem cut_right (a b : ByteArray) (c : UInt8) : (a ++ (({ data := #[c] } : ByteArray) ++ b)).extract (a.size + 1) (a ++ (({ data := #[c] } : ByteArray) ++ b)).size = b := by
  apply bytes_eq
  have h1 : ({ data := #[c] } : ByteArray).toList = [c] := ByteArray.toList_mk [c]
  have hX : (a ++ (({ data := #[c] } : ByteArray) ++ b)).toList = a.toList ++ ([c] ++ b.toList) := by rw [toList_append, toList_append, h1]
  rw [toList_extract, List.take_of_length_le (by rw [toList_size]; exact Nat.le_refl _), hX, ← toList_size a, List.drop_append, List.drop_eq_nil_of_le (by omega), Nat.add_sub_cancel_left]
  rfl
/-- An attribute's part, without what parts it. -/
def bodyP (p : Pr) : ByteArray := p.k ++ (c61 ++ p.v)
/-- The parts of many, each behind its mark. -/
def tailT : List Pr → ByteArray
  | [] => ByteArray.empty
  | p :: M => c59 ++ (bodyP p ++ tailT M)
theorem empty_app (a : ByteArray) : a ++ ByteArray.empty = a := by
  apply bytes_eq
  rw [toList_append, show ByteArray.empty.toList = [] from ByteArray.toList_mk []]
  simp
theorem partP_body (p : Pr) : partP p = c59 ++ bodyP p := by unfold partP bodyP; simp only [app_assoc]
theorem tailT_snoc (M : List Pr) (p : Pr) : tailT (M ++ [p]) = tailT M ++ partP p := by
  induction M with
  | nil => show c59 ++ (bodyP p ++ ByteArray.empty) = ByteArray.empty ++ partP p; rw [empty_app, partP_body]; apply bytes_eq; rw [toList_append ByteArray.empty, show ByteArray.empty.toList = [] from ByteArray.toList_mk []]; rfl
  | cons q M ih => show c59 ++ (bodyP q ++ tailT (M ++ [p])) = (c59 ++ (bodyP q ++ tailT M)) ++ partP p; rw [ih]; simp only [app_assoc]
theorem textN_tail (name : ByteArray) (M : List Pr) (i : Nat) (hi : i ≤ M.length) : textN name M i = name ++ tailT (M.take i) := by
  induction i with
  | zero => show name = name ++ ByteArray.empty; rw [empty_app]
  | succ i ih =>
    have hi' : i < M.length := by omega
    show textN name M i ++ partP (M.getD i pr0) = _
    rw [ih (by omega), getD_pr (List.getElem?_eq_getElem hi'), List.take_add_one, List.getElem?_eq_getElem hi', Option.toList_some, tailT_snoc, app_assoc]
theorem textN_all (name : ByteArray) (M : List Pr) : textN name M M.length = name ++ tailT M := by rw [textN_tail name M _ (Nat.le_refl _), List.take_length]
theorem split_tail (a : ByteArray) (M : List Pr) (k : Nat) (hk : M.length ≤ k) (ha : noB 59 a) (hM : ∀ p ∈ M, noB 59 (bodyP p)) : splitS 59 k (a ++ tailT M) = a :: M.map bodyP := by
  induction M generalizing a k with
  | nil =>
    show splitS 59 k (a ++ ByteArray.empty) = [a]
    rw [empty_app]
    exact splitS_none k (ixB_no ha)
  | cons p M ih =>
    cases k with
    | zero => simp at hk
    | succ k =>
      have hx : ixB (a ++ (c59 ++ (bodyP p ++ tailT M))) 59 = a.size := ixB_at ha
      rw [show a ++ tailT (p :: M) = a ++ (c59 ++ (bodyP p ++ tailT M)) from rfl]
      show (if ixB (a ++ (c59 ++ (bodyP p ++ tailT M))) 59 = -1 then _ else _) = _
      rw [if_neg (by rw [hx]; omega), hx, Int.toNat_natCast, cut_left, show c59 = ({ data := #[59] } : ByteArray) from rfl, cut_right, ih (bodyP p) k (by simpa using hk) (hM p List.mem_cons_self) (fun q hq => hM q (List.mem_cons_of_mem _ hq))]
      rfl
theorem count_tail (a : ByteArray) (M : List Pr) : M.length ≤ (a ++ tailT M).toList.count 59 := by
  induction M generalizing a with
  | nil => exact Nat.zero_le _
  | cons p M ih =>
    have h := ih (bodyP p)
    show _ ≤ (a ++ (c59 ++ (bodyP p ++ tailT M))).toList.count 59
    rw [toList_append, toList_append, List.count_append, List.count_append, show c59.toList = [59] from ByteArray.toList_mk [59]]
    have : List.count (59 : UInt8) [59] = 1 := rfl
    rw [List.length_cons]
    omega
theorem chr_mem {s : ByteArray} {b : UInt8} (h : b ∈ s.toList) : ∃ i, i < s.size ∧ chr s i = b.toNat := by
  obtain ⟨i, hi, he⟩ := List.getElem_of_mem h
  refine ⟨i, by rw [← toList_size]; exact hi, ?_⟩
  unfold chr
  rw [List.getD_eq_getElem?_getD, List.getElem?_eq_getElem hi, he]; rfl
theorem nameB_noB {s : ByteArray} (h : nameB s = true) (c : UInt8) (hc : letterB c.toNat = false) (hc2 : otherB c.toNat = false) : noB c s := by
  have h := of_decide_eq_true h
  intro b hb e
  obtain ⟨i, hi, hx⟩ := chr_mem hb
  rcases h.2.2 i hi with h1 | h1
  · rw [hx, e, hc] at h1; cases h1
  · rw [hx, e, hc2] at h1; cases h1
theorem valueB_noB {s : ByteArray} (h : valueB s = true) (c : UInt8) (hc : okV c.toNat = false) : noB c s := by
  have h := of_decide_eq_true h
  intro b hb e
  obtain ⟨i, hi, hx⟩ := chr_mem hb
  have h1 := h.2 i hi
  rw [hx, e, hc] at h1; cases h1
theorem cutS_body {p : Pr} (h : nameB p.k = true) : cutS (bodyP p) 61 = (p.k, p.v, true) := by
  have hx : ixB (bodyP p) 61 = p.k.size := ixB_at (nameB_noB h 61 rfl rfl)
  unfold cutS
  rw [if_neg (by rw [hx]; omega), hx, Int.toNat_natCast]
  unfold bodyP
  rw [cut_left, show c61 = ({ data := #[61] } : ByteArray) from rfl, cut_right]
theorem body_noB {p : Pr} (h : nameB p.k = true) (hv : valueB p.v = true) : noB 59 (bodyP p) := by
  refine noB_append (nameB_noB h 59 rfl rfl) (noB_append ?_ (valueB_noB hv 59 rfl))
  intro b hb
  rw [show c61.toList = [61] from ByteArray.toList_mk [61], List.mem_singleton] at hb
  rw [hb]; decide

/-- No key below the one ahead of it. -/
def Adj (M : List Pr) : Prop := ∀ i, i + 1 < M.length → ltS (M.getD (i + 1) pr0).k (M.getD i pr0).k = false
theorem ltS_asymm {a b : ByteArray} (h : ltS a b = true) : ltS b a = false := by
  have := bytesLess_total b.toList a.toList
  unfold ltS at h ⊢
  rw [h] at this
  cases h2 : Op.bytesLess b.toList a.toList with
  | false => rfl
  | true => rw [h2] at this; simp at this
theorem plc_left (A : List Pr) (x : Pr) (n : Nat) (h : 0 < plc A x n) : ltS x.k (A.getD (plc A x n - 1) pr0).k = false := by
  induction n with
  | zero => exact absurd h (Nat.lt_irrefl 0)
  | succ n ih =>
    unfold plc at h ⊢
    by_cases hl : ltS x.k (A.getD n pr0).k = true
    · rw [if_pos hl] at h ⊢; exact ih h
    · rw [if_neg hl]
      rw [Nat.add_sub_cancel]
      cases hb : ltS x.k (A.getD n pr0).k with
      | false => rfl
      | true => exact absurd hb hl
theorem plc_right (A : List Pr) (x : Pr) (n j : Nat) (h1 : plc A x n ≤ j) (h2 : j < n) : ltS x.k (A.getD j pr0).k = true := by
  induction n with
  | zero => omega
  | succ n ih =>
    unfold plc at h1
    by_cases hl : ltS x.k (A.getD n pr0).k = true
    · rw [if_pos hl] at h1
      rcases Nat.lt_or_ge j n with h | h
      · exact ih h1 h
      · obtain rfl : j = n := by omega
        exact hl
    · rw [if_neg hl] at h1; omega
theorem insP_get (A : List Pr) (x : Pr) (i : Nat) : (insP A x).getD i pr0 = if i < plc A x A.length then A.getD i pr0 else if i = plc A x A.length then x else A.getD (i - 1) pr0 := by
  have hp := plc_le A x A.length
  unfold insP
  rw [List.getD_eq_getElem?_getD]
  by_cases h : i < plc A x A.length
  · rw [if_pos h, List.getElem?_append_left (by rw [List.length_take]; omega), List.getElem?_take_of_lt h, List.getD_eq_getElem?_getD]
  · rw [if_neg h, List.getElem?_append_right (by rw [List.length_take]; omega), List.length_take, Nat.min_eq_left hp]
    by_cases h2 : i = plc A x A.length
    · rw [if_pos h2, h2, Nat.sub_self]; rfl
    · rw [if_neg h2]
      obtain ⟨m, hm⟩ : ∃ m, i - plc A x A.length = m + 1 := ⟨i - plc A x A.length - 1, by omega⟩
      rw [hm, List.getElem?_cons_succ, List.getElem?_drop, List.getD_eq_getElem?_getD, show plc A x A.length + m = i - 1 by omega]
theorem insP_adj {A : List Pr} {x : Pr} (h : Adj A) : Adj (insP A x) := by
  intro i hi
  rw [insP_length] at hi
  have hp := plc_le A x A.length
  rw [insP_get, insP_get]
  by_cases h1 : i + 1 < plc A x A.length
  · rw [if_pos h1, if_pos (by omega)]
    exact h i (by omega)
  · rw [if_neg h1]
    by_cases h2 : i + 1 = plc A x A.length
    · rw [if_pos h2, if_pos (by omega)]
      have := plc_left A x A.length (by omega)
      rwa [← h2, Nat.add_sub_cancel] at this
    · rw [if_neg h2, Nat.add_sub_cancel, if_neg (by omega)]
      by_cases h3 : i = plc A x A.length
      · rw [if_pos h3]
        exact ltS_asymm (plc_right A x A.length i (by omega) (by omega))
      · rw [if_neg h3]
        have := h (i - 1) (by omega)
        rwa [show i - 1 + 1 = i by omega] at this
theorem sortP_adj (L : List Pr) : Adj (sortP L) := by
  have key : ∀ (L A : List Pr), Adj A → Adj (L.foldl insP A) := by
    intro L
    induction L with
    | nil => intro A h; exact h
    | cons x L ih => intro A h; exact ih _ (insP_adj h)
  exact key L [] (fun i hi => by simp at hi)
theorem insP_perm (A : List Pr) (x : Pr) : (insP A x).Perm (x :: A) := by
  unfold insP
  refine List.perm_middle.trans ?_
  rw [List.take_append_drop]
theorem sortP_perm (L : List Pr) : (sortP L).Perm L := by
  have key : ∀ (L A : List Pr), (L.foldl insP A).Perm (A ++ L) := by
    intro L
    induction L with
    | nil => intro A; simp
    | cons x L ih =>
      intro A
      refine (ih _).trans ?_
      refine ((insP_perm A x).append_right L).trans ?_
      exact List.perm_middle.symm
  have := key L []
  simpa [sortP] using this
/-- All keys are different. -/
def Dis (L : List Pr) : Prop := L.Pairwise fun a b => a.k ≠ b.k
theorem dis_sort {L : List Pr} (h : Dis L) : Dis (sortP L) := ((sortP_perm L).pairwise_iff (fun h e => h e.symm)).2 h
theorem dis_has {L : List Pr} (h : Dis L) {i : Nat} (hi : i < L.length) : hasB (L.take i) (L.getD i pr0).k = false := by
  rw [getD_pr (List.getElem?_eq_getElem hi)]
  unfold hasB
  rw [List.any_eq_false]
  intro p hp
  obtain ⟨j, hj, he⟩ := List.getElem_of_mem hp
  rw [List.getElem_take] at he
  have hj' : j < i := by rw [List.length_take] at hj; omega
  have := List.pairwise_iff_getElem.1 h j i (by omega) hi hj'
  rw [he] at this
  rw [beq_bytes]
  simpa using this
theorem checkE_facts {name : ByteArray} {L : List Pr} (h : checkE name L = 0) : nameB name = true ∧ L.length ≤ 4 ∧ (∀ p ∈ L, nameB p.k = true ∧ valueB p.v = true) ∧ Dis L := by
  have h4 := checkE_few h
  unfold checkE at h
  by_cases hn : nameB name = true
  · rw [if_pos hn, if_neg (by omega)] at h
    have hz : ∀ i, i ≤ L.length → faults L i = 0 := by
      intro i hi
      apply Classical.byContradiction
      intro hne
      have := faults_stop hne (L.length - i)
      rw [Nat.add_sub_cancel' hi] at this
      rw [this] at h
      exact hne h
    have hf : ∀ i, i < L.length → faultAt L i = 0 := fun i hi => by rw [← faults_succ (hz i (by omega))]; exact hz (i + 1) hi
    have hg : ∀ i (hi : i < L.length), (nameB (L[i]).k = true ∧ valueB (L[i]).v = true) ∧ hasB (L.take i) (L[i]).k = false := by
      intro i hi
      have := hf i hi
      unfold faultAt at this
      rw [getD_pr (List.getElem?_eq_getElem hi)] at this
      split at this
      · rename_i h1
        split at this
        · cases this
        · rename_i h2
          exact ⟨h1, by simpa using h2⟩
      · cases this
    refine ⟨hn, h4, fun p hp => ?_, ?_⟩
    · obtain ⟨i, hi, rfl⟩ := List.getElem_of_mem hp
      exact (hg i hi).1
    · refine List.pairwise_iff_getElem.2 fun i j hi hj hij e => ?_
      have := (hg j hj).2
      unfold hasB at this
      rw [List.any_eq_false] at this
      exact this L[i] (List.mem_take_iff_getElem.2 ⟨i, by omega, rfl⟩) (beq_iff_eq.2 (by rw [e]))
  · rw [if_neg hn] at h; cases h
/-- A right label's text is read as the label. -/
theorem parse_text {name : ByteArray} {M : List Pr} (hn : nameB name = true) (h4 : M.length ≤ 4) (hM : ∀ p ∈ M, nameB p.k = true ∧ valueB p.v = true) (hD : Dis M) (hA : Adj M) : parseL (textN name M M.length) = (name, M, 0, 0) := by
  rw [textN_all]
  have hs : splitA 59 (name ++ tailT M) = name :: M.map bodyP := split_tail name M _ (count_tail name M) (nameB_noB hn 59 rfl rfl) (fun p hp => body_noB (hM p hp).1 (hM p hp).2)
  have hk : ∀ k, k ≤ M.length → ∃ at_, prsN (name.size + 1) (M.map bodyP) k = (M.take k, at_, 0) := by
    intro k hk
    induction k with
    | zero => exact ⟨_, rfl⟩
    | succ k ih =>
      obtain ⟨at_, h⟩ := ih (by omega)
      have hkM : k < M.length := by omega
      have hg : (M.map bodyP).getD k ByteArray.empty = bodyP M[k] := by rw [List.getD_eq_getElem?_getD, List.getElem?_map, List.getElem?_eq_getElem hkM]; rfl
      have hm := hM M[k] (List.getElem_mem hkM)
      have hd := dis_has hD hkM
      rw [getD_pr (List.getElem?_eq_getElem hkM)] at hd
      have hlt : (M.take k).length = k := by rw [List.length_take]; omega
      have hnx : nextE (M.take k) (bodyP M[k]) = (M[k], 0) := by
        unfold nextE
        rw [hlt, if_neg (by omega), cutS_body hm.1]
        dsimp only
        rw [if_pos ⟨rfl, hm.1, hm.2⟩, if_neg (by rw [hd]; decide), if_neg]
        rintro ⟨h0, hl⟩
        have ha := hA (k - 1) (by omega)
        rw [show k - 1 + 1 = k by omega, getD_pr (List.getElem?_eq_getElem hkM)] at ha
        have e : (M.take k).getD (k - 1) pr0 = M.getD (k - 1) pr0 := by rw [List.getD_eq_getElem?_getD, List.getElem?_take_of_lt (by omega), List.getD_eq_getElem?_getD]
        rw [e, ha] at hl
        cases hl
      have := prsN_good h (by rw [hg, hnx])
      rw [hg, hnx] at this
      refine ⟨at_ + (bodyP M[k]).size + 1, this.trans ?_⟩
      rw [List.take_add_one, List.getElem?_eq_getElem hkM]
      rfl
  obtain ⟨at_, hp⟩ := hk M.length (Nat.le_refl _)
  rw [List.take_length] at hp
  unfold parseL
  rw [hs]
  dsimp only
  rw [List.headD_cons, List.tail_cons, if_pos hn, List.length_map, hp]
  dsimp only
  rw [if_neg (fun e => e rfl)]
end Go.Proofs.Ytiiibhdohlpodaa

-- AL
namespace Go.Proofs.Ytiiibhdohlpodaa
open Go.RowKit
attribute [local go_sem ↓] Go.wp_at_zero Go.wp_at_succ

/-- What a right label's text says. -/
theorem textT_right {name : ByteArray} {L : List Pr} {S : ByteArray} (h : textT name L = (S, 0)) : parseL S = (name, sortP L, 0, 0) ∧ S = textN name (sortP L) (sortP L).length ∧ L.length ≤ 4 := by
  have hE : checkE name L = 0 := by rw [← textT_snd, h]
  have hf := checkE_facts hE
  unfold textT at h
  rw [if_neg (fun e => e hE)] at h
  injection h with h _
  rw [← h, ← sortP_length L]
  exact ⟨parse_text hf.1 (by rw [sortP_length]; exact hf.2.1) (fun p hp => hf.2.2.1 p (sortP_mem.1 hp)) (dis_sort hf.2.2.2) (sortP_adj L), rfl, by rw [sortP_length]; exact hf.2.1⟩
theorem textT_wrong {name : ByteArray} {L : List Pr} {S : ByteArray} {E : Nat} (h : textT name L = (S, E)) (hE : E ≠ 0) : S = ByteArray.empty := by
  unfold textT at h
  by_cases h0 : checkE name L = 0
  · rw [if_neg (fun e => e h0)] at h; injection h with _ h; exact absurd h.symm hE
  · rw [if_pos h0] at h; injection h with h _; exact h.symm
theorem text_same {n1 n2 S1 S2 : ByteArray} {L1 L2 : List Pr} (h1 : textT n1 L1 = (S1, 0)) (h2 : textT n2 L2 = (S2, 0)) : (S1.toList == S2.toList) = ((n1.toList == n2.toList) && sameL (sortP L1) (sortP L2)) := by
  obtain ⟨p1, e1, _⟩ := textT_right h1
  obtain ⟨p2, e2, _⟩ := textT_right h2
  rw [beq_bytes, beq_bytes]
  by_cases h : S1 = S2
  · subst h
    rw [p1] at p2
    injection p2 with q1 q2
    injection q2 with q2 _
    subst q1
    rw [← q2, (sameL_iff _ _).2 rfl]
    simp
  · rw [decide_eq_false h]
    by_cases hn : n1 = n2
    · subst hn
      rw [decide_eq_true rfl, Bool.true_and]
      cases hs : sameL (sortP L1) (sortP L2) with
      | false => rfl
      | true => exact absurd (by rw [e1, e2, (sameL_iff _ _).1 hs]) h
    · rw [decide_eq_false hn]; rfl

end Go.Proofs.Ytiiibhdohlpodaa

