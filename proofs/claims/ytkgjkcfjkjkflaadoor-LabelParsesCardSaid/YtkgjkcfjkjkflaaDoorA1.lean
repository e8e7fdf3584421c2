/- Layer 11: texts: bytes, names, values, plainly; isName, isValue, the document's Name and Value. -/
import Derived.Test.YtkgjkcfjkjkflaaDoorProg
import Derived.Test.YtkgjkcfjkjkflaaDoorG1
namespace Go.Proofs.YtkgjkcfjkjkflaaDoor
open Go.RowKit
attribute [local go_sem ↓] Go.wp_at_zero Go.wp_at_succ

/-- A text's i-th byte. -/
def chr (s : ByteArray) (i : Nat) : Nat := (s.toList.getD i 0).toNat
theorem toList_size (s : ByteArray) : s.toList.length = s.size := by rw [ByteArray.toList_eq]; exact Array.length_toList
theorem chr_lt (s : ByteArray) (i : Nat) : chr s i < 256 := (s.toList.getD i 0).toNat_lt
theorem run_chr {P : Program} {t : TypeId} (h : P.underlying t = some .string) (s : ByteArray) (i : Nat) (hi : i < s.size) (w : World) : (Instr.index t (.string s) (.int .i64 (i : Int))).run P w = .ok (.int .u8 (chr s i : Int)) w := by
  have hl : s.toList.length = s.size := toList_size s
  rw [run_index_string w t s .i64 i h, dif_pos ⟨by omega, by omega⟩]
  have e : chr s i = (s[((i : Nat) : Int).toNat]'(by omega)).toNat := by
    unfold chr
    rw [List.getD_eq_getElem?_getD, List.getElem?_eq_getElem (by omega)]
    have h2 : s.toList = s.data.toList := ByteArray.toList_eq s
    simp only [h2, Option.getD_some, Array.getElem_toList]
    rfl
  rw [e]
theorem eqT {a b : Nat} (h : a = b) : ((a : Int) == (b : Int)) = true := by simp [h]
def letterB (c : Nat) : Bool := decide (97 ≤ c ∧ c ≤ 122)
def otherB (c : Nat) : Bool := decide ((48 ≤ c ∧ c ≤ 57) ∨ c = 95 ∨ c = 46)
/-- Is that a name, or a key? -/
def nameB (s : ByteArray) : Bool := decide ((1 ≤ s.size ∧ s.size ≤ 32) ∧ letterB (chr s 0) = true ∧ ∀ i, i < s.size → letterB (chr s i) = true ∨ otherB (chr s i) = true)
def okV (c : Nat) : Bool := decide (33 ≤ c ∧ c ≤ 126 ∧ c ≠ 61 ∧ c ≠ 59 ∧ c ≠ 44)
/-- Is that a value? -/
def valueB (s : ByteArray) : Bool := decide ((1 ≤ s.size ∧ s.size ≤ 32) ∧ ∀ i, i < s.size → okV (chr s i) = true)
theorem nameB_no {s : ByteArray} (h : ¬ ((1 ≤ s.size ∧ s.size ≤ 32) ∧ letterB (chr s 0) = true)) : nameB s = false := decide_eq_false (fun e => h ⟨e.1, e.2.1⟩)
theorem nameB_at {s : ByteArray} {i : Nat} (hi : i < s.size) (h1 : letterB (chr s i) = false) (h2 : otherB (chr s i) = false) : nameB s = false := decide_eq_false (fun e => by rcases e.2.2 i hi with h | h; rw [h1] at h; cases h; rw [h2] at h; cases h)
theorem nameB_yes {s : ByteArray} (h : (1 ≤ s.size ∧ s.size ≤ 32) ∧ letterB (chr s 0) = true) (ha : ∀ i, i < s.size → letterB (chr s i) = true ∨ otherB (chr s i) = true) : nameB s = true := decide_eq_true ⟨h.1, h.2, ha⟩
theorem valueB_no {s : ByteArray} (h : ¬ (1 ≤ s.size ∧ s.size ≤ 32)) : valueB s = false := decide_eq_false (fun e => h e.1)
theorem valueB_at {s : ByteArray} {i : Nat} (hi : i < s.size) (h1 : okV (chr s i) = false) : valueB s = false := decide_eq_false (fun e => by have h := e.2 i hi; rw [h1] at h; cases h)
theorem valueB_yes {s : ByteArray} (h : 1 ≤ s.size ∧ s.size ≤ 32) (ha : ∀ i, i < s.size → okV (chr s i) = true) : valueB s = true := decide_eq_true ⟨h, ha⟩
theorem all_succ {p : Nat → Prop} {i : Nat} (h : ∀ j, j < i → p j) (hi : p i) : ∀ j, j < i + 1 → p j := fun j hj => by
  rcases Nat.lt_or_ge j i with h1 | h1
  · exact h j h1
  · obtain rfl : j = i := by omega
    exact hi

theorem small_any (c : Nat) (w : World) :
    Calls Tryd.prog 34 #[.int .u8 (c : Int)] w fun e w' => e = .returned (.bool (letterB c)) ∧ w = w' := by
  have hcase : (97 ≤ c ∧ c ≤ 122) ∨ ((97 : Int) ≤ c ∧ ¬ (c : Int) ≤ 122) ∨ ¬ (97 : Int) ≤ c := by omega
  rcases hcase with ⟨h1, h2⟩ | ⟨h1, h2⟩ | h1
  · have hd : Hid (letterB c = true) := Lib.hid (decide_eq_true ⟨h1, h2⟩)
    have a1 : (97 : Int) ≤ (c : Int) := by omega
    have a2 : (c : Int) ≤ 122 := by omega
    clear h1 h2
    go_enter Tryd.func34, Tryd.ntmps34
    go_wp2
    go_ret
    exact ⟨by rw [hd.out]; rfl, rfl⟩
  · have hd : Hid (letterB c = false) := Lib.hid (decide_eq_false (by omega))
    go_enter Tryd.func34, Tryd.ntmps34
    go_wp2
    go_ret
    exact ⟨by rw [hd.out]; rfl, rfl⟩
  · have hd : Hid (letterB c = false) := Lib.hid (decide_eq_false (by omega))
    go_enter Tryd.func34, Tryd.ntmps34
    go_wp2
    go_ret
    exact ⟨by rw [hd.out]; rfl, rfl⟩

set_option maxHeartbeats 4000000 in
theorem isName_any (s : ByteArray) (w : World) (hs : s.size ≤ 9223372036854775807) :
    Calls Tryd.prog 19 #[.string s] w fun e w' => e = .returned (.bool (nameB s)) ∧ w = w' := by
  have hS : ∀ i, i < s.size → ∀ w, (Instr.index 9 (.string s) (.int .i64 (i : Int))).run Tryd.prog w = .ok (.int .u8 (chr s i : Int)) w := fun i hi w => run_chr Tryd.underlying9 s i hi w
  by_cases h0 : s.size = 0
  · have HR := Lib.hid (nameB_no (s := s) (by omega))
    have q : ((s.size : Int) == 0) = true := by simp [h0]
    have q' : (s.size == 0) = true := by simp [h0]
    clear hS h0
    go_enter Tryd.func19, Tryd.ntmps19
    go_wp2
    go_ret
    exact ⟨by rw [HR.out]; rfl, rfl⟩
  have q : ((s.size : Int) == 0) = false := by simp [h0]
  have q' : (s.size == 0) = false := by simp [h0]
  by_cases h1 : 32 < s.size
  · have HR := Lib.hid (nameB_no (s := s) (by omega))
    have q1 : (32 : Int) < (s.size : Int) := by omega
    have q2 : decide (32 < s.size) = true := decide_eq_true h1
    clear hS h0
    go_enter Tryd.func19, Tryd.ntmps19
    go_wp2
    go_ret
    exact ⟨by rw [HR.out]; rfl, rfl⟩
  have q1 : ¬ (32 : Int) < (s.size : Int) := by omega
  have q2 : decide (32 < s.size) = false := decide_eq_false h1
  have hs0 : ∀ w, (Instr.index 9 (.string s) (.int .i64 0)).run Tryd.prog w = .ok (.int .u8 (chr s 0 : Int)) w := hS 0 (by omega)
  have HS := Lib.hid hS
  have HN := Lib.hid (show 1 ≤ s.size ∧ s.size ≤ 32 from ⟨by omega, by omega⟩)
  have HSM := Lib.hid (small_any (chr s 0))
  cases hl : letterB (chr s 0) with
  | false =>
    have HR := Lib.hid (nameB_no (s := s) (by rw [hl]; exact fun e => by cases e.2))
    rw [hl] at HSM
    obtain ⟨c0, hc0⟩ : ∃ c, c = chr s 0 := ⟨_, rfl⟩
    rw [← hc0] at hs0 HSM
    clear hS h0 h1 hc0 hl
    go_enter Tryd.func19, Tryd.ntmps19
    go_wp2_with fail
    refine (HSM.out _).mono ?_
    rintro e w' ⟨rfl, rfl⟩
    go_wp2
    go_ret
    exact ⟨by rw [HR.out]; rfl, rfl⟩
  | true =>
    have HL := Lib.hid hl
    rw [hl] at HSM
    obtain ⟨c0, hc0⟩ : ∃ c, c = chr s 0 := ⟨_, rfl⟩
    rw [← hc0] at hs0 HSM
    clear hS h0 h1 hc0 hl
    go_enter Tryd.func19, Tryd.ntmps19
    go_wp2_with fail
    refine (HSM.out _).mono ?_
    rintro e w' ⟨rfl, rfl⟩
    go_wp2
    obtain ⟨n, hn⟩ : ∃ n, n = s.size := ⟨_, rfl⟩
    have HNN := Lib.hid hn
    rw [← hn]
    clear hs0 hs q q' q1 q2 hn
    go_loopg [21] n (fun g s21 wr => ∃ i : Nat, i ≤ n ∧ g = n - i ∧ s21 = .int .i64 i ∧ w = wr ∧ ∀ j, j < i → letterB (chr s j) = true ∨ otherB (chr s j) = true)
    case atStart => exact ⟨0, Nat.zero_le _, rfl, rfl, rfl, fun j hj => by omega⟩
    case round =>
      obtain ⟨i, hin, rfl, rfl, rfl, ha⟩ := hrel
      have HA := Lib.hid ha
      clear ha
      by_cases hd : i < n
      · have hdi : (i : Int) < (n : Int) := by omega
        have HD := Lib.hid hd
        have wi : IntKind.i64.wrap ((i : Int) + 1) = ((i + 1 : Nat) : Int) := by rw [IntWalk.i64_in _ ⟨by omega, by have := HN.out; have := HNN.out; omega⟩]; omega
        have hix := HS.out i (by have := HNN.out; omega)
        have HSI := Lib.hid (small_any (chr s i))
        have hlt := chr_lt s i
        obtain ⟨c, hc⟩ : ∃ c, c = chr s i := ⟨_, rfl⟩
        rw [← hc] at hix HSI hlt
        have HC := Lib.hid hc
        obtain ⟨LB, hLB⟩ : ∃ b, b = letterB c := ⟨_, rfl⟩
        have hLB2 := hLB
        rw [← hLB] at HSI
        clear hd hin hc
        have hcase : LB = true ∨ (LB = false ∧ (48 : Int) ≤ c ∧ (c : Int) ≤ 57) ∨ (LB = false ∧ c < 48 ∧ c = 46) ∨ (LB = false ∧ c < 48 ∧ c ≠ 46) ∨ (LB = false ∧ 57 < c ∧ c = 95) ∨ (LB = false ∧ 57 < c ∧ c ≠ 95) := by
          cases LB <;> simp <;> omega
        rcases hcase with rfl | ⟨rfl, c1, c2⟩ | ⟨rfl, c1, rfl⟩ | ⟨rfl, c1, c2⟩ | ⟨rfl, c1, rfl⟩ | ⟨rfl, c1, c2⟩
        · have HOK := Lib.hid (show letterB (chr s i) = true ∨ otherB (chr s i) = true from .inl (by rw [← HC.out]; exact hLB.symm))
          clear hLB hLB2
          go_wp2_with fail
          refine (HSI.out _).mono ?_
          rintro e w' ⟨rfl, rfl⟩
          go_wp2
          go_roundg (n - (i + 1))
          case measure => have := HD.out; omega
          case rel => exact ⟨i + 1, HD.out, rfl, rfl, rfl, all_succ HA.out HOK.out⟩
        · have HOK := Lib.hid (show letterB (chr s i) = true ∨ otherB (chr s i) = true from .inr (by rw [← HC.out]; exact decide_eq_true (by omega)))
          have g1 : ¬ (c : Int) < 48 := by omega
          have g2 : ¬ (57 : Int) < (c : Int) := by omega
          have g3 : decide (c < 48) = false := decide_eq_false (by omega)
          have g4 : decide (57 < c) = false := decide_eq_false (by omega)
          clear hLB hLB2 c1 c2
          go_wp2_with fail
          refine (HSI.out _).mono ?_
          rintro e w' ⟨rfl, rfl⟩
          go_wp2
          go_roundg (n - (i + 1))
          case measure => have := HD.out; omega
          case rel => exact ⟨i + 1, HD.out, rfl, rfl, rfl, all_succ HA.out HOK.out⟩
        · have HOK := Lib.hid (show letterB (chr s i) = true ∨ otherB (chr s i) = true from .inr (by rw [← HC.out]; rfl))
          clear hLB hLB2 c1
          go_wp2_with fail
          refine (HSI.out _).mono ?_
          rintro e w' ⟨rfl, rfl⟩
          go_wp2
          go_roundg (n - (i + 1))
          case measure => have := HD.out; omega
          case rel => exact ⟨i + 1, HD.out, rfl, rfl, rfl, all_succ HA.out HOK.out⟩
        · have HR := Lib.hid (nameB_at (s := s) (i := i) (by have := HNN.out; have := HD.out; omega) (by rw [← HC.out]; exact hLB.symm) (by rw [← HC.out]; exact decide_eq_false (by omega)))
          have g1 : (c : Int) < 48 := by omega
          have g3 : decide (c < 48) = true := decide_eq_true (by omega)
          have g5 : ((c : Int) != 95) = true := bneT (by omega)
          have g6 : ((c : Int) != 46) = true := bneT (by omega)
          have g7 : (c != 95) = true := by simp; omega
          have g8 : (c != 46) = true := by simp; omega
          clear hLB hLB2 c1 c2
          go_wp2_with fail
          refine (HSI.out _).mono ?_
          rintro e w' ⟨rfl, rfl⟩
          go_wp2
          go_ret
          exact ⟨by rw [HR.out]; rfl, rfl⟩
        · have HOK := Lib.hid (show letterB (chr s i) = true ∨ otherB (chr s i) = true from .inr (by rw [← HC.out]; rfl))
          clear hLB hLB2 c1
          go_wp2_with fail
          refine (HSI.out _).mono ?_
          rintro e w' ⟨rfl, rfl⟩
          go_wp2
          go_roundg (n - (i + 1))
          case measure => have := HD.out; omega
          case rel => exact ⟨i + 1, HD.out, rfl, rfl, rfl, all_succ HA.out HOK.out⟩
        · have HR := Lib.hid (nameB_at (s := s) (i := i) (by have := HNN.out; have := HD.out; omega) (by rw [← HC.out]; exact hLB.symm) (by rw [← HC.out]; exact decide_eq_false (by omega)))
          have g1 : ¬ (c : Int) < 48 := by omega
          have g3 : decide (c < 48) = false := decide_eq_false (by omega)
          have g2 : (57 : Int) < (c : Int) := by omega
          have g4 : decide (57 < c) = true := decide_eq_true (by omega)
          have g5 : ((c : Int) != 95) = true := bneT (by omega)
          have g6 : ((c : Int) != 46) = true := bneT (by omega)
          have g7 : (c != 95) = true := by simp; omega
          have g8 : (c != 46) = true := by simp; omega
          clear hLB hLB2 c1 c2
          go_wp2_with fail
          refine (HSI.out _).mono ?_
          rintro e w' ⟨rfl, rfl⟩
          go_wp2
          go_ret
          exact ⟨by rw [HR.out]; rfl, rfl⟩
      · obtain rfl : n = i := by omega
        have HR := Lib.hid (nameB_yes (s := s) ⟨HN.out, HL.out⟩ (by rw [← HNN.out]; exact HA.out))
        clear hd
        go_wp2
        go_ret
        exact ⟨by rw [HR.out]; rfl, rfl⟩
end Go.Proofs.YtkgjkcfjkjkflaaDoor
