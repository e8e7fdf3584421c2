/- The document's answer for hist: sum, Total. -/
import Derived.Test.YtjpnfadmblmjbaaDoorHX
namespace Go.Proofs.YtjpnfadmblmjbaaDoor
open Go.RowKit
attribute [local go_sem ↓] Go.wp_at_zero Go.wp_at_succ

/-- A sum, and whether it fits. -/
def sumV (a : Nat) (l : List Nat) : Value := .tuple #[.int .u64 (((if sumN a l < 18446744073709551616 then sumN a l else 0 : Nat)) : Int), .bool (decide (sumN a l < 18446744073709551616))]

set_option maxHeartbeats 4000000 in
set_option maxRecDepth 100000 in
theorem refSum_any (a : Nat) (l : List Nat) (v : Value) (w : World) (hv : SlAt w v (uvals l)) (ha : a < 18446744073709551616) (hl : l.length ≤ 1000000) (hb : ∀ x ∈ l, x < 18446744073709551616) :
    Calls Tryd.prog 89 #[.int .u64 (a : Int), v] w fun e w' => e = .returned (sumV a l) ∧ w' = w := by
  have hv0 := Lib.hid hv
  obtain ⟨ao, c, hval, _, _⟩ := hv.val
  rw [uvals_length] at hval
  subst hval
  have HLE := Lib.hid fun i => sumN_le a l i
  have HST := Lib.hid fun i (hi : i < l.length) => sumN_take a l i hi
  obtain ⟨T, hT⟩ : ∃ T, T = sumN a l := ⟨_, rfl⟩
  have HT := Lib.hid hT
  have HBAD : Hid (18446744073709551616 ≤ T → Ending.returned (.tuple #[.int .u64 0, .bool false]) = .returned (sumV a l)) := Lib.hid fun h => by
    unfold sumV; rw [← hT, if_neg (by omega), decide_eq_false (by omega)]; rfl
  have HGOOD : Hid (T < 18446744073709551616 → Ending.returned (.tuple #[.int .u64 (T : Int), .bool true]) = .returned (sumV a l)) := Lib.hid fun h => by
    unfold sumV; rw [← hT, if_pos h, decide_eq_true h]
  clear hv hT
  go_enter Tryd.func89, Tryd.ntmps89
  go_wp2
  go_loopg [0, 6] l.length (fun g s0 s6 wr => ∃ i : Nat, i ≤ l.length ∧ g = l.length - i ∧ s6 = .int .i64 i ∧ s0 = .int .u64 ((sumN a (l.take i) : Nat) : Int) ∧ sumN a (l.take i) < 18446744073709551616 ∧ wr = w)
  case atStart => exact ⟨0, Nat.zero_le _, rfl, rfl, by rw [List.take_zero, sumN_nil], by rw [List.take_zero, sumN_nil]; exact ha, rfl⟩
  case round =>
    obtain ⟨i, hil, rfl, rfl, rfl, hSi, rfl⟩ := hrel
    obtain ⟨X, hX⟩ : ∃ X, X = sumN a (l.take i) := ⟨_, rfl⟩
    rw [← hX] at hSi ⊢
    by_cases hd : i < l.length
    · have hdi : (i : Int) < (l.length : Int) := by omega
      have i0 : (0 : Int) ≤ (i : Int) := by omega
      have HD := Lib.hid hd
      obtain ⟨g, off, rfl, c0⟩ := hv0.out.elem (uvals_get hd)
      obtain ⟨y, hy⟩ : ∃ y, y = l.getD i 0 := ⟨_, rfl⟩
      rw [← hy] at c0
      have hst := HST.out i hd
      rw [← hX, ← hy] at hst
      have hle := HLE.out (i + 1)
      rw [hst, ← HT.out] at hle
      have hyb : y < 18446744073709551616 := by rw [hy]; exact getD_u64 hb i
      obtain ⟨Z, hZ⟩ : ∃ Z : Nat, Z = 18446744073709551615 - X := ⟨_, rfl⟩
      have e1 : IntKind.u64.wrap (18446744073709551615 - (X : Int)) = (Z : Int) := by rw [IntKind.wrap_u64]; omega
      have e2 : (18446744073709551615 : Int) - (X : Int) = (Z : Int) := by omega
      have e3 : IntKind.u64.wrap (Z : Int) = (Z : Int) := by rw [IntKind.wrap_u64]; omega
      by_cases hov : Z < y
      · have hov' : (Z : Int) < (y : Int) := by omega
        have HBIG := Lib.hid (show 18446744073709551616 ≤ T by omega)
        clear hst hX hy hd hle hyb hSi hZ
        go_wp2
        go_ret2
        exact ⟨HBAD.out HBIG.out, rfl⟩
      · have hov' : ¬ (Z : Int) < (y : Int) := by omega
        obtain ⟨Y, hY⟩ : ∃ Y, Y = X + y := ⟨_, rfl⟩
        have e4 : IntKind.u64.wrap ((X : Int) + (y : Int)) = (Y : Int) := by rw [IntKind.wrap_u64]; omega
        have e5 : IntKind.u64.wrap (Y : Int) = (Y : Int) := by rw [IntKind.wrap_u64]; omega
        have e6 : (X : Int) + (y : Int) = (Y : Int) := by omega
        rw [← hY] at hst
        have HS2 := Lib.hid hst
        have HOV := Lib.hid (show Y < 18446744073709551616 by omega)
        clear hst hX hy hd hle hyb hSi hZ hY hov
        go_wp2
        go_roundg (l.length - (i + 1))
        case measure => have := HD.out; omega
        case rel => exact ⟨i + 1, HD.out, rfl, by go_num, by rw [HS2.out], by rw [HS2.out]; exact HOV.out, rfl⟩
    · obtain rfl : i = l.length := by omega
      rw [List.take_length, ← HT.out] at hX
      subst hX
      have HSI := Lib.hid hSi
      clear hd hSi
      go_wp2
      go_ret2
      exact ⟨HGOOD.out HSI.out, rfl⟩

set_option maxHeartbeats 4000000 in
set_option maxRecDepth 100000 in
theorem refTotal_any (h : HistV) (pv nv : Value) (w : World) (ha : HistAt w h pv nv) (hz : h.ze < 18446744073709551616) (hp : h.pl.length ≤ 1000000) (hn : h.nl.length ≤ 1000000) (hpb : ∀ x ∈ h.pl, x < 18446744073709551616) (hnb : ∀ x ∈ h.nl, x < 18446744073709551616) :
    Calls Tryd.prog 70 #[histV h pv nv] w fun e w' => e = .returned (totV h) ∧ Kept (fun _ => False) w w' := by
  obtain ⟨⟨ao, c, rfl⟩, bo, d, rfl⟩ := ha.sl
  have HS1 := Lib.hid fun w' (k : Kept (fun _ => False) w w') => refSum_any h.ze h.pl _ w' (ha.on k).p hz hp hpb
  have HS2 := Lib.hid fun w' (k : Kept (fun _ => False) w w') (a : Nat) (hA : a < 18446744073709551616) => refSum_any a h.nl _ w' (ha.on k).n hA hn hnb
  obtain ⟨T1, hT1⟩ : ∃ T, T = sumN h.ze h.pl := ⟨_, rfl⟩
  have htot : h.total = sumN T1 h.nl := by rw [hT1]; rfl
  have hle : T1 ≤ sumN T1 h.nl := by unfold sumN; omega
  obtain ⟨T2, hT2⟩ : ∃ T, T = sumN T1 h.nl := ⟨_, rfl⟩
  rw [← hT2] at hle htot
  have HT : Hid (totV h = .tuple #[.int .u64 (((if T2 < 18446744073709551616 then T2 else 0 : Nat)) : Int), .bool (decide (T2 < 18446744073709551616))]) := Lib.hid (by unfold totV; rw [htot])
  have HT2 := Lib.hid hT2
  unfold sumV at HS1 HS2
  rw [← hT1] at HS1
  have HSB := Lib.hid fun w' (k : Kept (fun _ => False) w w') (hA : T1 < 18446744073709551616) => HS2.out w' k T1 hA
  rw [← hT2] at HSB
  have kb := (Kept.refl (fun _ => False) w).alloc (.cells #[.int .i64 h.sc, .int .u64 (h.ze : Int), .int .i64 h.po, .slice ao h.pl.length c, .int .i64 h.no, .slice bo h.nl.length d] 62)
  have KB := Lib.hid kb
  have HLE := Lib.hid hle
  clear ha hT1 htot hT2 HS2 kb hle hz
  obtain ⟨sc, ze, po, pl, no, nl⟩ := h
  unfold histV
  simp only at HS1 HSB KB
  by_cases h1 : T1 < 18446744073709551616
  · rw [if_pos h1, decide_eq_true h1] at HS1
    have HB2 := Lib.hid fun w' k => HSB.out w' k h1
    by_cases h2 : T2 < 18446744073709551616
    all_goals
      first
        | rw [if_pos h2, decide_eq_true h2] at HB2 HT
        | rw [if_neg h2, decide_eq_false h2] at HB2 HT
      clear HSB h1 h2
      go_enter Tryd.func70, Tryd.ntmps70
      go_wp2_with (first
        | (have _tok := HW1.out; go_at_call 89; refine (HB2.out _ KB.out).mono ?_; rintro e w2 ⟨rfl, rfl⟩)
        | (go_at_call 89; refine (HS1.out _ KB.out).mono ?_; rintro e w1 ⟨rfl, hw1⟩; have HW1 := Lib.hid hw1; subst hw1)
        | fail)
      go_ret2
      exact ⟨by rw [HT.out]; rfl, KB.out⟩
  · have HX := Lib.hid (show totV ⟨sc, ze, po, pl, no, nl⟩ = .tuple #[.int .u64 0, .bool false] by rw [HT.out, if_neg (by have := HLE.out; omega), decide_eq_false (by have := HLE.out; omega)]; rfl)
    rw [if_neg h1, decide_eq_false h1] at HS1
    clear HSB h1
    go_enter Tryd.func70, Tryd.ntmps70
    go_wp2_with (first
      | (go_at_call 89; refine (HS1.out _ KB.out).mono ?_; rintro e w1 ⟨rfl, rfl⟩)
      | fail)
    go_ret2
    exact ⟨by rw [HX.out]; rfl, KB.out⟩
end Go.Proofs.YtjpnfadmblmjbaaDoor
