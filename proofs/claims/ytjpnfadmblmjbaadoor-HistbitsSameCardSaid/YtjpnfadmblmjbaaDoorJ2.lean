/- The document's answer for hist: side, Light, half. -/
import Derived.Test.YtjpnfadmblmjbaaDoorJ1
namespace Go.Proofs.YtjpnfadmblmjbaaDoor
open Go.RowKit
attribute [local go_sem ↓] Go.wp_at_zero Go.wp_at_succ

set_option maxHeartbeats 1000000 in
theorem refSide_any (o : Int) (l : List Nat) (v : Value) (w : World) (hv : SlAt w v (uvals l)) (ho : I64 o) (hl : l.length ≤ 1000000) :
    Calls Tryd.prog 69 #[.agg #[.int .i64 o, v]] w fun e w' => e = .returned (.int .i64 ((sideE o l : Nat) : Int)) ∧ Kept (fun _ => False) w w' := by
  obtain ⟨h0, h1⟩ := ho
  have hv0 := Lib.hid hv
  obtain ⟨ao, c, hval, _, _⟩ := hv.val
  rw [uvals_length] at hval
  subst hval
  by_cases hA : 160 < l.length
  · have e : sideE o l = 4 := by unfold sideE; rw [if_pos hA]
    have q : (160 : Int) < (l.length : Int) := by omega
    rw [e]
    clear hv e
    go_enter Tryd.func69, Tryd.ntmps69
    go_wp2
    go_ret
    exact ⟨rfl, (Kept.refl _ _).alloc _⟩
  · have q1 : ¬ (160 : Int) < (l.length : Int) := by omega
    have q1b : decide (160 < l.length) = false := decide_eq_false hA
    by_cases hB : l.length = 0
    · have q2 : ((l.length : Int) == 0) = true := beqT (by omega)
      by_cases hC : o = 0
      · have e : sideE o l = 0 := by unfold sideE; rw [if_neg hA, if_pos hB, if_pos hC]
        rw [e]
        have q3 : (o != 0) = false := by simp [hC]
        clear hv e hC hB
        go_enter Tryd.func69, Tryd.ntmps69
        go_wp2
        go_ret
        exact ⟨rfl, (Kept.refl _ _).alloc _⟩
      · have e : sideE o l = 3 := by unfold sideE; rw [if_neg hA, if_pos hB, if_neg hC]
        rw [e]
        have q3 : (o != 0) = true := by simp [hC]
        clear hv e hC hB
        go_enter Tryd.func69, Tryd.ntmps69
        go_wp2
        go_ret
        exact ⟨rfl, (Kept.refl _ _).alloc _⟩
    · have q2 : ((l.length : Int) == 0) = false := beqF (by omega)
      obtain ⟨n, hn⟩ : ∃ n, n = l.length - 1 := ⟨_, rfl⟩
      have hv1 := hv.kept ((Kept.refl (fun _ => False) w).alloc (.cells #[.int .i64 o, .slice ao l.length c] 60)) (fun _ _ x => x)
      obtain ⟨g, off, e1, c0⟩ := hv1.elem (uvals_get (j := 0) (by omega))
      subst e1
      obtain ⟨_, _, e', c1⟩ := hv1.elem (uvals_get (j := n) (by omega))
      injection e' with e'; injection e' with e1 e2; subst e1; subst e2
      rw [Nat.add_zero] at c0
      have l0 : (0 : Int) < (l.length : Int) := by omega
      have l0n : 0 < l.length := by omega
      have n1 : IntKind.i64.wrap ((l.length : Int) - 1) = (n : Int) := by rw [IntWalk.i64_in _ ⟨by omega, by omega⟩]; omega
      have n2 : (l.length : Int) - 1 = (n : Int) := by omega
      have n0 : (0 : Int) ≤ (n : Int) := by omega
      have nl : (n : Int) < (l.length : Int) := by omega
      obtain ⟨x, hx⟩ : ∃ x, x = l.getD 0 0 := ⟨_, rfl⟩
      obtain ⟨y, hy⟩ : ∃ y, y = l.getD n 0 := ⟨_, rfl⟩
      have hd : sideE o l = if x = 0 ∨ y = 0 then 3 else if o < -1073741824 ∨ 1073741824 < o + ((l.length : Nat) : Int) - 1 then 1 else 0 := by
        unfold sideE; rw [if_neg hA, if_neg hB, hx, hy, hn]
      have HD := Lib.hid hd
      rw [← hx] at c0
      rw [← hy] at c1
      have m1 : 1073741824 - (n : Int) = 1073741825 - (l.length : Int) := by omega
      have hcase : x = 0 ∨ (x ≠ 0 ∧ y = 0) ∨ (x ≠ 0 ∧ y ≠ 0 ∧ o < -1073741824) ∨ (x ≠ 0 ∧ y ≠ 0 ∧ ¬ o < -1073741824 ∧ 1073741824 < o) ∨ (x ≠ 0 ∧ y ≠ 0 ∧ ¬ o < -1073741824 ∧ ¬ 1073741824 < o ∧ 1073741824 < o + (n : Int)) ∨ (x ≠ 0 ∧ y ≠ 0 ∧ ¬ o < -1073741824 ∧ ¬ 1073741824 < o ∧ ¬ 1073741824 < o + (n : Int)) := by omega
      have hres : (x = 0 ∨ y = 0 → sideE o l = 3) ∧ (x ≠ 0 → y ≠ 0 → (o < -1073741824 ∨ 1073741824 < o ∨ 1073741824 < o + (n : Int)) → sideE o l = 1) ∧ (x ≠ 0 → y ≠ 0 → ¬ o < -1073741824 → ¬ 1073741824 < o → ¬ 1073741824 < o + (n : Int) → sideE o l = 0) := by
        rw [hd]
        refine ⟨fun h => by rw [if_pos h], fun a b h => by rw [if_neg (by omega), if_pos (by omega)], fun a b h i j => by rw [if_neg (by omega), if_neg (by omega)]⟩
      have HRES := Lib.hid hres
      clear hv hv1 hd hres hx hy hn hA hB m1
      rcases hcase with h | ⟨h, h'⟩ | ⟨h, h', h''⟩ | ⟨h, h', h'', h3⟩ | ⟨h, h', h'', h3, h4⟩ | ⟨h, h', h'', h3, h4⟩
      · have e := HRES.out.1 (.inl h)
        have qx : ((x : Int) == 0) = true := by simp; omega
        rw [e]
        clear e h
        go_enter Tryd.func69, Tryd.ntmps69
        go_wp2
        go_ret
        exact ⟨rfl, (Kept.refl _ _).alloc _⟩
      · have e := HRES.out.1 (.inr h')
        have qx : ((x : Int) == 0) = false := by simp; omega
        have qy : ((y : Int) == 0) = true := by simp; omega
        rw [e]
        clear e h h'
        go_enter Tryd.func69, Tryd.ntmps69
        go_wp2
        go_ret
        exact ⟨rfl, (Kept.refl _ _).alloc _⟩
      all_goals
        have qx : ((x : Int) == 0) = false := by simp; omega
        have qy : ((y : Int) == 0) = false := by simp; omega
        try
          have s1 : IntKind.i64.wrap (o + (l.length : Int)) = o + (l.length : Int) := IntWalk.i64_in _ ⟨by omega, by omega⟩
          have s2 : IntKind.i64.wrap (o + (l.length : Int) - 1) = o + (n : Int) := by rw [IntWalk.i64_in _ ⟨by omega, by omega⟩]; omega
          have s3 : IntKind.i64.wrap (o + (n : Int)) = o + (n : Int) := IntWalk.i64_in _ ⟨by omega, by omega⟩
          have s4 : o + (l.length : Int) - 1 = o + (n : Int) := by omega
        first
          | have e := HRES.out.2.2 h h' h'' h3 h4
          | have e := HRES.out.2.1 h h' (.inr (.inr h4))
          | have e := HRES.out.2.1 h h' (.inr (.inl h3))
          | have e := HRES.out.2.1 h h' (.inl h'')
        rw [e]
        clear e h h'
        go_enter Tryd.func69, Tryd.ntmps69
        go_wp2
        go_ret
        exact ⟨rfl, (Kept.refl _ _).alloc _⟩

set_option maxHeartbeats 1000000 in
theorem refLight_any (h : HistV) (pv nv : Value) (w : World) (ha : HistAt w h pv nv) :
    Calls Tryd.prog 36 #[histV h pv nv] w fun e w' => e = .returned (.bool (decide (h.pl.length ≤ 300 ∧ h.nl.length ≤ 300))) ∧ Kept (fun _ => False) w w' := by
  obtain ⟨⟨ao, c, rfl⟩, bo, d, rfl⟩ := ha.sl
  have hres : h.pl.length ≤ 300 ∧ h.nl.length ≤ 300 ∨ ¬ (h.pl.length ≤ 300 ∧ h.nl.length ≤ 300) := Decidable.em _
  obtain ⟨A, hA⟩ : ∃ A, A = h.pl.length := ⟨_, rfl⟩
  obtain ⟨B, hB⟩ : ∃ A, A = h.nl.length := ⟨_, rfl⟩
  rw [← hA, ← hB]
  obtain ⟨sc, ze, po, pl, no, nl⟩ := h
  unfold histV
  simp only
  clear ha hA hB hres
  by_cases h1 : A ≤ 300
  · have q1 : (A : Int) ≤ 300 := by omega
    have q1b : decide (A ≤ 300) = true := decide_eq_true h1
    by_cases h2 : B ≤ 300
    · have q2 : (B : Int) ≤ 300 := by omega
      have q2b : decide (B ≤ 300) = true := decide_eq_true h2
      rw [decide_eq_true ⟨h1, h2⟩]
      go_enter Tryd.func36, Tryd.ntmps36
      go_wp2
      go_ret
      exact ⟨rfl, (Kept.refl _ _).alloc _⟩
    · have q2 : ¬ (B : Int) ≤ 300 := by omega
      have q2b : decide (B ≤ 300) = false := decide_eq_false h2
      rw [decide_eq_false (show ¬ (A ≤ 300 ∧ B ≤ 300) by omega)]
      go_enter Tryd.func36, Tryd.ntmps36
      go_wp2
      go_ret
      exact ⟨rfl, (Kept.refl _ _).alloc _⟩
  · have q1 : ¬ (A : Int) ≤ 300 := by omega
    have q1b : decide (A ≤ 300) = false := decide_eq_false h1
    rw [decide_eq_false (show ¬ (A ≤ 300 ∧ B ≤ 300) by omega)]
    go_enter Tryd.func36, Tryd.ntmps36
    go_wp2
    go_ret
    exact ⟨rfl, (Kept.refl _ _).alloc _⟩
end Go.Proofs.YtjpnfadmblmjbaaDoor
