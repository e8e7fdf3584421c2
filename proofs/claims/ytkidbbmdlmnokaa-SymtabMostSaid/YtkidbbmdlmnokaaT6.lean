/- Layer 34: sort.Search, with a function that tells something of numbers. -/
import Derived.Test.YtkidbbmdlmnokaaT5
namespace Go.Proofs.Ytkidbbmdlmnokaa
open Go.RowKit
attribute [local go_sem ↓] Go.wp_at_zero Go.wp_at_succ

/-- A function of numbers below n that tells something, in whichever world behind W. -/
structure NTeller (W : World) (f : FuncId) (caps : Array Value) (n : Nat) (p : Nat → Bool) : Prop where
  go : ∀ (w : World) (i : Nat), i < n → Kept (fun _ => False) W w → Calls Try.prog f (#[.int .i64 (i : Int)] ++ caps) w fun e w' => e = .returned (.bool (p i)) ∧ Kept (fun _ => False) w w'
  hcf : ∀ (w : World) (args : Array Value), (callFunc f args).run Try.prog w = .ok (.enter f args) w
/-- What Search answers: a place with nothing told just ahead of it, and something told there. -/
def SearchTo (n : Nat) (p : Nat → Bool) (z : Nat) : Prop := z ≤ n ∧ (z = 0 ∨ p (z - 1) = false) ∧ (z = n ∨ p z = true)
set_option maxHeartbeats 2000000 in
theorem search_any (n : Nat) (f : FuncId) (caps : Array Value) (p : Nat → Bool) (w : World) (hn : n ≤ 1000000) (T : NTeller w f caps n p) :
    Calls Try.prog 81 #[.int .i64 (n : Int), .func (.func f) #[] caps] w fun e w' => ∃ z, e = .returned (.int .i64 ((z : Nat) : Int)) ∧ SearchTo n p z ∧ Kept (fun _ => False) w w' := by
  have HT := Lib.hid T
  have hcf := T.hcf
  have HN := Lib.hid hn
  clear T hn
  go_enter Try.func81, Try.ntmps81
  go_wp2
  go_loopg [5, 6] n (fun G s5 s6 wr => ∃ i j : Nat, i ≤ j ∧ j ≤ n ∧ G = j - i ∧ s5 = .int .i64 i ∧ s6 = .int .i64 j ∧ (i = 0 ∨ p (i - 1) = false) ∧ (j = n ∨ p j = true) ∧ Kept (fun _ => False) w wr)
  case atStart => exact ⟨0, n, Nat.zero_le _, Nat.le_refl _, rfl, rfl, rfl, .inl rfl, .inl rfl, Kept.refl _ _⟩
  case round =>
    obtain ⟨i, j, hij, hjn, rfl, rfl, rfl, hi, hj, hk⟩ := hrel
    have HI := Lib.hid (And.intro hi hj)
    have HK := Lib.hid hk
    clear hi hj hk
    by_cases hd : i < j
    · have hdi : (i : Int) < (j : Int) := by omega
      have hdi' : decide (i < j) = true := decide_eq_true hd
      obtain ⟨S, hS⟩ : ∃ S, S = i + j := ⟨_, rfl⟩
      obtain ⟨H, hH⟩ : ∃ H, H = S / 2 := ⟨_, rfl⟩
      have w1 : IntKind.i64.wrap ((i : Int) + (j : Int)) = (S : Int) := by rw [IntWalk.i64_in _ ⟨by omega, by have := HN.out; omega⟩]; omega
      have w2 : IntKind.u64.wrap (S : Int) = (S : Int) := by rw [IntKind.wrap_u64]; have := HN.out; omega
      have w3 : (S : Int) / 2 = (H : Int) := by omega
      have w4 : IntKind.i64.wrap (H : Int) = (H : Int) := by rw [IntWalk.i64_in _ ⟨by omega, by have := HN.out; omega⟩]
      have w5 : IntKind.i64.wrap ((H : Int) + 1) = ((H + 1 : Nat) : Int) := by rw [IntWalk.i64_in _ ⟨by omega, by have := HN.out; omega⟩]; omega
      have HH := Lib.hid (show i ≤ H ∧ H < j by omega)
      have HB := Lib.hid (show i < j ∧ j ≤ n by omega)
      have HGO := Lib.hid (HT.out.go wr H (by omega) HK.out)
      obtain ⟨b, hb⟩ : ∃ b, b = p H := ⟨_, rfl⟩
      rw [← hb] at HGO
      have HPB := Lib.hid hb
      clear hS hH hb hd hij hjn
      go_wp2_with fail
      refine HGO.out.mono ?_
      rintro e w1 ⟨rfl, k1⟩
      have HK1 := Lib.hid (HK.out.trans k1)
      clear k1
      cases b with
      | true =>
        go_wp2
        go_roundg (H - i)
        case measure => have := HH.out; have := HB.out; omega
        case rel => exact ⟨i, H, HH.out.1, by have := HH.out; have := HB.out; omega, rfl, rfl, rfl, HI.out.1, .inr HPB.out.symm, HK1.out⟩
      | false =>
        go_wp2
        go_roundg (j - (H + 1))
        case measure => have := HH.out; have := HB.out; omega
        case rel => exact ⟨H + 1, j, by have := HH.out; omega, HB.out.2, rfl, rfl, rfl, .inr (by rw [Nat.add_sub_cancel]; exact HPB.out.symm), HI.out.2, HK1.out⟩
    · obtain rfl : i = j := by omega
      have hdi : ¬ (i : Int) < (i : Int) := by omega
      have hdi' : decide (i < i) = false := decide_eq_false hd
      have HR := Lib.hid (show SearchTo n p i from ⟨hjn, HI.out.1, HI.out.2⟩)
      clear hd hij hjn
      go_wp2
      go_ret
      exact ⟨i, rfl, HR.out, HK.out⟩
/-- Does a text begin with another one? -/
def begS (s t : ByteArray) : Bool := decide (t.size ≤ s.size) && ((s.extract 0 t.size).toList == t.toList)
theorem run_toT {P : Program} {t : TypeId} (h : P.underlying t = some .string) (s : ByteArray) (j : Nat) (hj : j ≤ s.size) (w : World) : (Instr.slice t (.string s) none (some (.int .i64 (j : Int))) none).run P w = .ok (.string (s.extract 0 j)) w := by
  have := run_slice_string_h (P := P) w t s h .i64 (j : Int) (by omega) (by omega); simpa using this
theorem hasPre0_any (s t : ByteArray) (w : World) :
    Calls Try.prog 93 #[.string s, .string t] w fun e w' => e = .returned (.bool (begS s t)) ∧ w = w' := by
  by_cases h : t.size ≤ s.size
  · have HX : Hid (begS s t = ((s.extract 0 t.size).toList == t.toList)) := Lib.hid (by unfold begS; rw [decide_eq_true h, Bool.true_and])
    have q : (t.size : Int) ≤ (s.size : Int) := by omega
    have q' : decide (t.size ≤ s.size) = true := decide_eq_true h
    have hc := run_toT (P := Try.prog) Try.underlying9 s t.size h
    have q0 : (0 : Int) ≤ (t.size : Int) := by omega
    obtain ⟨x, hx⟩ : ∃ x, x = s.extract 0 t.size := ⟨_, rfl⟩
    rw [← hx] at hc HX
    obtain ⟨b, hb⟩ : ∃ b, b = (x.toList == t.toList) := ⟨_, rfl⟩
    have hb2 : (x.toList == t.toList) = b := hb.symm
    rw [← hb] at HX
    clear h hx hb
    go_enter Try.func93, Try.ntmps93
    go_wp2
    go_ret
    exact ⟨by rw [HX.out]; rfl, rfl⟩
  · have HX : Hid (begS s t = false) := Lib.hid (by unfold begS; rw [decide_eq_false h, Bool.false_and])
    have q : ¬ (t.size : Int) ≤ (s.size : Int) := by omega
    have q' : decide (t.size ≤ s.size) = false := decide_eq_false h
    clear h
    go_enter Try.func93, Try.ntmps93
    go_wp2
    go_ret
    exact ⟨by rw [HX.out]; rfl, rfl⟩
theorem hasPre_any (s t : ByteArray) (w : World) :
    Calls Try.prog 84 #[.string s, .string t] w fun e w' => e = .returned (.bool (begS s t)) ∧ w = w' := by
  have H := Lib.hid (hasPre0_any s t)
  go_enter Try.func84, Try.ntmps84
  go_wp2_with fail
  refine (H.out _).mono ?_
  rintro e w' ⟨rfl, rfl⟩
  go_wp2
  go_ret
  exact ⟨rfl, rfl⟩
theorem begins34_any (s t : ByteArray) (w : World) :
    Calls Try.prog 43 #[.string s, .string t] w fun e w' => e = .returned (.bool (begS s t)) ∧ w = w' := by
  by_cases h : t.size ≤ s.size
  · have HX : Hid (begS s t = ((s.extract 0 t.size).toList == t.toList)) := Lib.hid (by unfold begS; rw [decide_eq_true h, Bool.true_and])
    have q : (t.size : Int) ≤ (s.size : Int) := by omega
    have q' : decide (t.size ≤ s.size) = true := decide_eq_true h
    have hc := run_toT (P := Try.prog) Try.underlying9 s t.size h
    have q0 : (0 : Int) ≤ (t.size : Int) := by omega
    obtain ⟨x, hx⟩ : ∃ x, x = s.extract 0 t.size := ⟨_, rfl⟩
    rw [← hx] at hc HX
    obtain ⟨b, hb⟩ : ∃ b, b = (x.toList == t.toList) := ⟨_, rfl⟩
    have hb2 : (x.toList == t.toList) = b := hb.symm
    rw [← hb] at HX
    clear h hx hb
    go_enter Try.func43, Try.ntmps43
    go_wp2
    go_ret
    exact ⟨by rw [HX.out]; rfl, rfl⟩
  · have HX : Hid (begS s t = false) := Lib.hid (by unfold begS; rw [decide_eq_false h, Bool.false_and])
    have q : ¬ (t.size : Int) ≤ (s.size : Int) := by omega
    have q' : decide (t.size ≤ s.size) = false := decide_eq_false h
    clear h
    go_enter Try.func43, Try.ntmps43
    go_wp2
    go_ret
    exact ⟨by rw [HX.out]; rfl, rfl⟩
end Go.Proofs.Ytkidbbmdlmnokaa
