/- Texts put together: what the theorem stands on. -/
import Derived.Test.YtiiibhdohlpodaaZz2
import Derived.Test.YtiiibhdohlpodaaRows
import Derived.Laws.Externs
import Derived.Laws.FloatArith
import Derived.Lib.Hide

namespace Go.Proofs.Ytiiibhdohlpodaa
/-- What is wrong with a side. -/
def sideE (o : Int) (l : List Nat) : Nat :=
  if 160 < l.length then 4
  else if l.length = 0 then (if o = 0 then 0 else 3)
  else if l.getD 0 0 = 0 ∨ l.getD (l.length - 1) 0 = 0 then 3
  else if o < -1073741824 ∨ 1073741824 < o + ((l.length : Nat) : Int) - 1 then 1 else 0
/-- A sum, if 64 bits hold it. -/
def sumN (a : Nat) (l : List Nat) : Nat := a + l.sum
theorem sumN_nil (a : Nat) : sumN a [] = a := by simp [sumN]
theorem sumN_take (a : Nat) (l : List Nat) (i : Nat) (h : i < l.length) : sumN a (l.take (i + 1)) = sumN a (l.take i) + l.getD i 0 := by
  have e : l.getD i 0 = l[i] := by rw [List.getD_eq_getElem?_getD, List.getElem?_eq_getElem h]; rfl
  rw [List.take_succ_eq_append_getElem h, e]
  unfold sumN
  rw [List.sum_append, List.sum_singleton]; omega
theorem sumN_le (a : Nat) (l : List Nat) (i : Nat) : sumN a (l.take i) ≤ sumN a l := by
  have : l.sum = (l.take i).sum + (l.drop i).sum := by rw [← List.sum_append, List.take_append_drop]
  unfold sumN; omega
/-- A histogram. -/
structure HistV where
  sc : Int
  ze : Nat
  po : Int
  pl : List Nat
  no : Int
  nl : List Nat
def HistV.total (h : HistV) : Nat := sumN (sumN h.ze h.pl) h.nl
/-- What is wrong with a histogram. -/
def HistV.err (h : HistV) : Nat :=
  if h.sc < -10 ∨ 20 < h.sc then 1
  else if sideE h.po h.pl ≠ 0 then sideE h.po h.pl
  else if sideE h.no h.nl ≠ 0 then sideE h.no h.nl
  else if 18446744073709551616 ≤ h.total then 4 else 0
/-- The numbers that a histogram's fields may be. -/
structure HistV.ok (h : HistV) : Prop where
  sc : -9223372036854775808 ≤ h.sc ∧ h.sc ≤ 9223372036854775807
  ze : h.ze < 18446744073709551616
  po : -9223372036854775808 ≤ h.po ∧ h.po ≤ 9223372036854775807
  pl : ∀ x ∈ h.pl, x < 18446744073709551616
  no : -9223372036854775808 ≤ h.no ∧ h.no ≤ 9223372036854775807
  nl : ∀ x ∈ h.nl, x < 18446744073709551616
end Go.Proofs.Ytiiibhdohlpodaa
namespace Go.Proofs.Ytiiibhdohlpodaa
open Go.RowKit
attribute [local go_sem ↓] Go.wp_at_zero Go.wp_at_succ
set_option maxHeartbeats 1000000 in
theorem checkSide_any (o : Int) (l : List Nat) (v : Value) (w : World) (hv : SlAt w v (uvals l)) (ho : I64 o) :
    Calls Try.prog 60 #[.agg #[.int .i64 o, v]] w fun e w' => e = .returned (.int .i64 ((sideE o l : Nat) : Int)) ∧ Kept (fun _ => False) w w' := by
  obtain ⟨h0, h1⟩ := ho
  have hv0 := Lib.hid hv
  obtain ⟨ao, c, hval, _, _⟩ := hv.val
  rw [uvals_length] at hval
  subst hval
  by_cases hA : 160 < l.length
  · have e : sideE o l = 4 := by unfold sideE; rw [if_pos hA]
    have q : (160 : Int) < (l.length : Int) := by omega
    rw [e]
    clear hv e
    go_enter Try.func60, Try.ntmps60
    go_wp2
    go_ret
    exact ⟨rfl, (Kept.refl _ _).alloc _⟩
  · have q1 : ¬ (160 : Int) < (l.length : Int) := by omega
    have q1b : decide (160 < l.length) = false := decide_eq_false hA
    by_cases hB : l.length = 0
    · have q2 : ((l.length : Int) == 0) = true := beqT (by omega)
      by_cases hC : o = 0
      · have e : sideE o l = 0 := by unfold sideE; rw [if_neg hA, if_pos hB, if_pos hC]
        rw [e]
        have q3 : (o != 0) = false := by simp [hC]
        clear hv e hC hB
        go_enter Try.func60, Try.ntmps60
        go_wp2
        go_ret
        exact ⟨rfl, (Kept.refl _ _).alloc _⟩
      · have e : sideE o l = 3 := by unfold sideE; rw [if_neg hA, if_pos hB, if_neg hC]
        rw [e]
        have q3 : (o != 0) = true := by simp [hC]
        clear hv e hC hB
        go_enter Try.func60, Try.ntmps60
        go_wp2
        go_ret
        exact ⟨rfl, (Kept.refl _ _).alloc _⟩
    · have q2 : ((l.length : Int) == 0) = false := beqF (by omega)
      obtain ⟨n, hn⟩ : ∃ n, n = l.length - 1 := ⟨_, rfl⟩
      have hv1 := hv.kept ((Kept.refl (fun _ => False) w).alloc (.cells #[.int .i64 o, .slice ao l.length c] 28)) (fun _ _ x => x)
      obtain ⟨g, off, e1, c0⟩ := hv1.elem (uvals_get (j := 0) (by omega))
      subst e1
      obtain ⟨_, _, e', c1⟩ := hv1.elem (uvals_get (j := n) (by omega))
      injection e' with e'; injection e' with e1 e2; subst e1; subst e2
      rw [Nat.add_zero] at c0
      have l0 : (0 : Int) < (l.length : Int) := by omega
      have l0n : 0 < l.length := by omega
      have n1 : IntKind.i64.wrap ((l.length : Int) - 1) = (n : Int) := by rw [IntWalk.i64_in _ ⟨by omega, by omega⟩]; omega
      have n2 : (l.length : Int) - 1 = (n : Int) := by omega
      have n0 : (0 : Int) ≤ (n : Int) := by omega
      have nl : (n : Int) < (l.length : Int) := by omega
      obtain ⟨x, hx⟩ : ∃ x, x = l.getD 0 0 := ⟨_, rfl⟩
      obtain ⟨y, hy⟩ : ∃ y, y = l.getD n 0 := ⟨_, rfl⟩
      have hd : sideE o l = if x = 0 ∨ y = 0 then 3 else if o < -1073741824 ∨ 1073741824 < o + ((l.length : Nat) : Int) - 1 then 1 else 0 := by
        unfold sideE; rw [if_neg hA, if_neg hB, hx, hy, hn]
      have HD := Lib.hid hd
      rw [← hx] at c0
      rw [← hy] at c1
      have m1 : 1073741824 - (n : Int) = 1073741825 - (l.length : Int) := by omega
      have hcase : x = 0 ∨ (x ≠ 0 ∧ y = 0) ∨ (x ≠ 0 ∧ y ≠ 0 ∧ o < -1073741824) ∨ (x ≠ 0 ∧ y ≠ 0 ∧ ¬ o < -1073741824 ∧ 1073741824 - (n : Int) < o) ∨ (x ≠ 0 ∧ y ≠ 0 ∧ ¬ o < -1073741824 ∧ ¬ 1073741824 - (n : Int) < o) := by omega
      have hres : (x = 0 ∨ y = 0 → sideE o l = 3) ∧ (x ≠ 0 → y ≠ 0 → (o < -1073741824 ∨ 1073741824 - (n : Int) < o) → sideE o l = 1) ∧ (x ≠ 0 → y ≠ 0 → ¬ o < -1073741824 → ¬ 1073741824 - (n : Int) < o → sideE o l = 0) := by
        rw [hd]
        refine ⟨fun h => by rw [if_pos h], fun a b h => by rw [if_neg (by omega), if_pos (by omega)], fun a b h i => by rw [if_neg (by omega), if_neg (by omega)]⟩
      have s1 : IntKind.i64.wrap (1073741824 - (n : Int)) = 1073741824 - (n : Int) := IntWalk.i64_in _ ⟨by omega, by omega⟩
      have HRES := Lib.hid hres
      clear hv hv1 hd hres hx hy hn hA hB m1
      rcases hcase with h | ⟨h, h'⟩ | ⟨h, h', h''⟩ | ⟨h, h', h'', h3⟩ | ⟨h, h', h'', h3⟩
      · have e := HRES.out.1 (.inl h)
        have qx : ((x : Int) == 0) = true := by simp; omega
        rw [e]
        clear e h
        go_enter Try.func60, Try.ntmps60
        go_wp2
        go_ret
        exact ⟨rfl, (Kept.refl _ _).alloc _⟩
      · have e := HRES.out.1 (.inr h')
        have qx : ((x : Int) == 0) = false := by simp; omega
        have qy : ((y : Int) == 0) = true := by simp; omega
        rw [e]
        clear e h h'
        go_enter Try.func60, Try.ntmps60
        go_wp2
        go_ret
        exact ⟨rfl, (Kept.refl _ _).alloc _⟩
      all_goals
        have qx : ((x : Int) == 0) = false := by simp; omega
        have qy : ((y : Int) == 0) = false := by simp; omega
        first
          | have e := HRES.out.2.2 h h' h'' h3
          | have e := HRES.out.2.1 h h' (.inr h3)
          | have e := HRES.out.2.1 h h' (.inl h'')
        rw [e]
        clear e h h'
        go_enter Try.func60, Try.ntmps60
        go_wp2
        go_ret
        exact ⟨rfl, (Kept.refl _ _).alloc _⟩
theorem add64_run (x y : Nat) (w : World) : (callFunc 59 #[.int .u64 (x : Int), .int .u64 (y : Int), .int .u64 0]).run Try.prog w = .ok (.value (.tuple #[.int .u64 (((x + y) % 18446744073709551616 : Nat) : Int), .int .u64 (((x + y) / 18446744073709551616 : Nat) : Int)])) w := by
  rw [run_callFunc_extern Try.func59 (by kernel_rfl) (by kernel_rfl) (by kernel_rfl) (e := add64Entry) (by kernel_rfl), run_add64 x y 0 (by omega) (by omega) (by omega) (by omega)]
  simp only [Result.andThen]
  congr 5 <;> omega
end Go.Proofs.Ytiiibhdohlpodaa
namespace Go.Proofs.Ytiiibhdohlpodaa
open Go.RowKit
attribute [local go_sem ↓] Go.wp_at_zero Go.wp_at_succ
/-- The value that a histogram is. -/
def histV (h : HistV) (pv nv : Value) : Value := .agg #[.int .i64 h.sc, .int .u64 (h.ze : Int), .int .i64 h.po, pv, .int .i64 h.no, nv]
/-- Its sides' counts lie in the slices pv and nv. -/
structure HistAt (w : World) (h : HistV) (pv nv : Value) : Prop where
  p : SlAt w pv (uvals h.pl)
  n : SlAt w nv (uvals h.nl)
theorem HistAt.kept {S : Nat → Prop} {w w' : World} {h : HistV} {pv nv : Value} (a : HistAt w h pv nv) (hk : Kept S w w') (hp : ∀ k, pv.ownBlock = some k → ¬ S k) (hn : ∀ k, nv.ownBlock = some k → ¬ S k) : HistAt w' h pv nv := ⟨a.p.kept hk hp, a.n.kept hk hn⟩
theorem HistAt.on {w w' : World} {h : HistV} {pv nv : Value} (a : HistAt w h pv nv) (hk : Kept (fun _ => False) w w') : HistAt w' h pv nv := a.kept hk (fun _ _ x => x) (fun _ _ x => x)
theorem HistAt.sl {w : World} {h : HistV} {pv nv : Value} (a : HistAt w h pv nv) : (∃ ao c, pv = .slice ao h.pl.length c) ∧ ∃ bo d, nv = .slice bo h.nl.length d := by
  obtain ⟨ao, c, e, _⟩ := a.p.val
  obtain ⟨bo, d, e', _⟩ := a.n.val
  rw [uvals_length] at e e'
  exact ⟨⟨ao, c, e⟩, bo, d, e'⟩
/-- What Total answers. -/
def totV (h : HistV) : Value := .tuple #[.int .u64 (((if h.total < 18446744073709551616 then h.total else 0 : Nat)) : Int), .bool (decide (h.total < 18446744073709551616))]
set_option maxHeartbeats 4000000 in
set_option maxRecDepth 100000 in
theorem histTotal_any (h : HistV) (pv nv : Value) (w : World) (ha : HistAt w h pv nv) (hz : h.ze < 18446744073709551616) (hp : h.pl.length ≤ 1000000) (hn : h.nl.length ≤ 1000000) (hpb : ∀ x ∈ h.pl, x < 18446744073709551616) (hnb : ∀ x ∈ h.nl, x < 18446744073709551616) :
    Calls Try.prog 29 #[histV h pv nv] w fun e w' => e = .returned (totV h) ∧ Kept (fun _ => False) w w' := by
  obtain ⟨⟨ao, c, rfl⟩, bo, d, rfl⟩ := ha.sl
  obtain ⟨sc, ze, po, pl, no, nl⟩ := h
  have HA := Lib.hid ha
  obtain ⟨TOT, hTOT⟩ : ∃ T, T = sumN (sumN ze pl) nl := ⟨_, rfl⟩
  have htt : HistV.total ⟨sc, ze, po, pl, no, nl⟩ = TOT := hTOT.symm
  have HTOT := Lib.hid hTOT
  have HT2 := Lib.hid (show sumN ze pl ≤ TOT by rw [hTOT]; unfold sumN; omega)
  have HBAD : Hid (18446744073709551616 ≤ TOT → Ending.returned (.tuple #[.int .u64 0, .bool false]) = .returned (totV ⟨sc, ze, po, pl, no, nl⟩)) := Lib.hid fun hb => by
    unfold totV; rw [htt, if_neg (by omega), decide_eq_false (by omega)]; rfl
  have HGOOD : Hid (∀ S : Nat, S = TOT → S < 18446744073709551616 → Ending.returned (.tuple #[.int .u64 (S : Int), .bool true]) = .returned (totV ⟨sc, ze, po, pl, no, nl⟩)) := Lib.hid fun S e hb => by
    unfold totV; rw [htt, ← e, if_pos hb, decide_eq_true hb]
  unfold histV
  simp only at hz hp hn hpb hnb ⊢
  clear ha htt hTOT
  go_enter Try.func29, Try.ntmps29
  go_wp2
  go_loopg [4, 6, 8, 9, 10, 18, 19, 20, 21, 22, 23, 24, 25, 26, 27, 28, 29, 30, 31, 32, 33, 34, 35, 36, 37, 38] 2 (fun g s4 s6 s8 s9 s10 s18 s19 s20 s21 s22 s23 s24 s25 s26 s27 s28 s29 s30 s31 s32 s33 s34 s35 s36 s37 s38 wr => ∃ (k S : Nat), k ≤ 2 ∧ g = 2 - k ∧ s18 = .int .i64 k ∧ s4 = .int .u64 S ∧ S < 18446744073709551616 ∧ (k = 0 ∧ S = ze ∨ k = 1 ∧ S = sumN ze pl ∨ k = 2 ∧ S = TOT) ∧ Kept (fun _ => False) w wr)
  case atStart => exact ⟨0, ze, by omega, rfl, rfl, rfl, hz, .inl ⟨rfl, rfl⟩, (Kept.refl _ _).alloc _⟩
  case round =>
    obtain ⟨k, S, hk2, rfl, rfl, rfl, hS, hcase, hkw⟩ := hrel
    have HK := Lib.hid hkw
    clear hkw
    rcases hcase with ⟨rfl, hSS⟩ | ⟨rfl, hSS⟩ | ⟨rfl, hSS⟩
    · have HSS := Lib.hid hSS
      clear hSS hk2
      have hcell := fun w' (h : Kept (fun _ => False) w w') i (hi : i < pl.length) => (HA.out.p.kept h (fun _ _ x => x)).elem (uvals_get hi)
      have HC := Lib.hid hcell
      obtain ⟨T, hT⟩ : ∃ T, T = sumN S pl := ⟨_, rfl⟩
      have hstep := fun i (hi : i < pl.length) => sumN_take S pl i hi
      have hle := fun i => sumN_le S pl i
      rw [← hT] at hle
      have HST := Lib.hid hstep
      have HLE := Lib.hid hle
      have HTT := Lib.hid hT
      have ix : ∀ w, (Instr.index 91 (.agg #[.int .i64 po, .slice ao pl.length c, .int .i64 no, .slice bo nl.length d]) (.int .i64 0)).run Try.prog w = .ok (.agg #[.int .i64 po, .slice ao pl.length c]) w := fun _ => by kernel_rfl
      clear hcell hstep hle hT
      go_wp2
      obtain ⟨wa, hwa⟩ : ∃ wa, wa = wr.alloc (.cells #[.int .i64 po, .slice ao pl.length c] 28) := ⟨_, rfl⟩
      have KA := Lib.hid (show Kept (fun _ => False) w wa from by rw [hwa]; exact HK.out.alloc _)
      rw [← hwa]
      clear hwa
      go_loopg [4, 8, 9, 10, 24, 25, 26, 27, 28, 29, 30, 31, 32, 33, 34, 35, 36, 37] pl.length (fun g s4 s8 s9 s10 s24 s25 s26 s27 s28 s29 s30 s31 s32 s33 s34 s35 s36 s37 wx => ∃ i : Nat, i ≤ pl.length ∧ g = pl.length - i ∧ s24 = .int .i64 i ∧ s4 = .int .u64 ((sumN S (pl.take i) : Nat) : Int) ∧ sumN S (pl.take i) < 18446744073709551616 ∧ wa = wx)
      case atStart => exact ⟨0, Nat.zero_le _, rfl, rfl, by rw [List.take_zero, sumN_nil], by rw [List.take_zero, sumN_nil]; exact hS, rfl⟩
      case round =>
        obtain ⟨i, hil, rfl, rfl, rfl, hSi, rfl⟩ := hrel
        obtain ⟨X, hX⟩ : ∃ X, X = sumN S (pl.take i) := ⟨_, rfl⟩
        rw [← hX] at hSi ⊢
        by_cases hd : i < pl.length
        · have hdi : (i : Int) < (pl.length : Int) := by omega
          have i0 : (0 : Int) ≤ (i : Int) := by omega
          have HD := Lib.hid hd
          obtain ⟨g, off, rfl, c0⟩ := HC.out wa KA.out i hd
          obtain ⟨y, hy⟩ : ∃ y, y = pl.getD i 0 := ⟨_, rfl⟩
          rw [← hy] at c0
          have hst := HST.out i hd
          rw [← hX, ← hy] at hst
          have hle := HLE.out (i + 1)
          rw [hst] at hle
          have hyb : y < 18446744073709551616 := by rw [hy]; exact getD_u64 hpb i
          have hadd := add64_run X y
          by_cases hov : X + y < 18446744073709551616
          · have m1 : (X + y) % 18446744073709551616 = X + y := Nat.mod_eq_of_lt hov
            have m2 : (X + y) / 18446744073709551616 = 0 := Nat.div_eq_of_lt hov
            rw [m1, m2] at hadd
            obtain ⟨Y, hY⟩ : ∃ Y, Y = X + y := ⟨_, rfl⟩
            rw [← hY] at hadd hst hov
            have HS2 := Lib.hid hst
            have HOV := Lib.hid hov
            clear hY hst hX hy hd hle hyb m1 m2 hov hSi
            go_wp2
            go_roundg (pl.length - (i + 1))
            case measure => have := HD.out; omega
            case rel => exact ⟨i + 1, HD.out, rfl, by go_num, by rw [HS2.out], by rw [HS2.out]; exact HOV.out, rfl⟩
          · have m2 : (X + y) / 18446744073709551616 = 1 := by omega
            rw [m2] at hadd
            obtain ⟨Y, hY⟩ : ∃ Y, Y = (X + y) % 18446744073709551616 := ⟨_, rfl⟩
            rw [← hY] at hadd
            have HBIG := Lib.hid (show 18446744073709551616 ≤ T by omega)
            clear hY hst hX hy hd hle hyb m2 hov hSi
            go_wp2
            go_ret2
            exact ⟨HBAD.out (by have h1 := HBIG.out; have h2 := HTT.out; rw [HSS.out] at h2; have := HT2.out; omega), KA.out⟩
        · obtain rfl : i = pl.length := by omega
          rw [List.take_length, ← HTT.out] at hX
          have HXT := Lib.hid hX
          have HSI := Lib.hid hSi
          clear hd hX hSi
          go_wp2
          go_roundg 1
          case measure => omega
          case rel => exact ⟨1, X, by omega, rfl, rfl, rfl, HSI.out, .inr (.inl ⟨rfl, by rw [HXT.out, HTT.out, HSS.out]⟩), KA.out⟩
    · have HSS := Lib.hid hSS
      clear hSS hk2
      have hcell := fun w' (h : Kept (fun _ => False) w w') i (hi : i < nl.length) => (HA.out.n.kept h (fun _ _ x => x)).elem (uvals_get hi)
      have HC := Lib.hid hcell
      obtain ⟨T, hT⟩ : ∃ T, T = sumN S nl := ⟨_, rfl⟩
      have hstep := fun i (hi : i < nl.length) => sumN_take S nl i hi
      have hle := fun i => sumN_le S nl i
      rw [← hT] at hle
      have HST := Lib.hid hstep
      have HLE := Lib.hid hle
      have HTT := Lib.hid hT
      have ix : ∀ w, (Instr.index 91 (.agg #[.int .i64 po, .slice ao pl.length c, .int .i64 no, .slice bo nl.length d]) (.int .i64 1)).run Try.prog w = .ok (.agg #[.int .i64 no, .slice bo nl.length d]) w := fun _ => by kernel_rfl
      clear hcell hstep hle hT
      go_wp2
      obtain ⟨wa, hwa⟩ : ∃ wa, wa = wr.alloc (.cells #[.int .i64 no, .slice bo nl.length d] 28) := ⟨_, rfl⟩
      have KA := Lib.hid (show Kept (fun _ => False) w wa from by rw [hwa]; exact HK.out.alloc _)
      rw [← hwa]
      clear hwa
      go_loopg [4, 8, 9, 10, 24, 25, 26, 27, 28, 29, 30, 31, 32, 33, 34, 35, 36, 37] nl.length (fun g s4 s8 s9 s10 s24 s25 s26 s27 s28 s29 s30 s31 s32 s33 s34 s35 s36 s37 wx => ∃ i : Nat, i ≤ nl.length ∧ g = nl.length - i ∧ s24 = .int .i64 i ∧ s4 = .int .u64 ((sumN S (nl.take i) : Nat) : Int) ∧ sumN S (nl.take i) < 18446744073709551616 ∧ wa = wx)
      case atStart => exact ⟨0, Nat.zero_le _, rfl, rfl, by rw [List.take_zero, sumN_nil], by rw [List.take_zero, sumN_nil]; exact hS, rfl⟩
      case round =>
        obtain ⟨i, hil, rfl, rfl, rfl, hSi, rfl⟩ := hrel
        obtain ⟨X, hX⟩ : ∃ X, X = sumN S (nl.take i) := ⟨_, rfl⟩
        rw [← hX] at hSi ⊢
        by_cases hd : i < nl.length
        · have hdi : (i : Int) < (nl.length : Int) := by omega
          have i0 : (0 : Int) ≤ (i : Int) := by omega
          have HD := Lib.hid hd
          obtain ⟨g, off, rfl, c0⟩ := HC.out wa KA.out i hd
          obtain ⟨y, hy⟩ : ∃ y, y = nl.getD i 0 := ⟨_, rfl⟩
          rw [← hy] at c0
          have hst := HST.out i hd
          rw [← hX, ← hy] at hst
          have hle := HLE.out (i + 1)
          rw [hst] at hle
          have hyb : y < 18446744073709551616 := by rw [hy]; exact getD_u64 hnb i
          have hadd := add64_run X y
          by_cases hov : X + y < 18446744073709551616
          · have m1 : (X + y) % 18446744073709551616 = X + y := Nat.mod_eq_of_lt hov
            have m2 : (X + y) / 18446744073709551616 = 0 := Nat.div_eq_of_lt hov
            rw [m1, m2] at hadd
            obtain ⟨Y, hY⟩ : ∃ Y, Y = X + y := ⟨_, rfl⟩
            rw [← hY] at hadd hst hov
            have HS2 := Lib.hid hst
            have HOV := Lib.hid hov
            clear hY hst hX hy hd hle hyb m1 m2 hov hSi
            go_wp2
            go_roundg (nl.length - (i + 1))
            case measure => have := HD.out; omega
            case rel => exact ⟨i + 1, HD.out, rfl, by go_num, by rw [HS2.out], by rw [HS2.out]; exact HOV.out, rfl⟩
          · have m2 : (X + y) / 18446744073709551616 = 1 := by omega
            rw [m2] at hadd
            obtain ⟨Y, hY⟩ : ∃ Y, Y = (X + y) % 18446744073709551616 := ⟨_, rfl⟩
            rw [← hY] at hadd
            have HBIG := Lib.hid (show 18446744073709551616 ≤ T by omega)
            clear hY hst hX hy hd hle hyb m2 hov hSi
            go_wp2
            go_ret2
            exact ⟨HBAD.out (by have h1 := HBIG.out; have h2 := HTT.out; rw [HSS.out, ← HTOT.out] at h2; omega), KA.out⟩
        · obtain rfl : i = nl.length := by omega
          rw [List.take_length, ← HTT.out] at hX
          have HXT := Lib.hid hX
          have HSI := Lib.hid hSi
          clear hd hX hSi
          go_wp2
          go_roundg 0
          case measure => omega
          case rel => exact ⟨2, X, by omega, rfl, rfl, rfl, HSI.out, .inr (.inr ⟨rfl, by rw [HXT.out, HTT.out, HSS.out, HTOT.out]⟩), KA.out⟩
    · have HSS := Lib.hid hSS
      clear hSS hk2
      have HS := Lib.hid hS
      clear hS
      go_wp2
      go_ret2
      exact ⟨HGOOD.out S HSS.out HS.out, HK.out⟩
end Go.Proofs.Ytiiibhdohlpodaa
namespace Go.Proofs.Ytiiibhdohlpodaa
open Go.RowKit
attribute [local go_sem ↓] Go.wp_at_zero Go.wp_at_succ
set_option maxHeartbeats 4000000 in
set_option maxRecDepth 100000 in
theorem histCheck_any (h : HistV) (pv nv : Value) (w : World) (ha : HistAt w h pv nv) (hok : h.ok) (hp : h.pl.length ≤ 1000000) (hn : h.nl.length ≤ 1000000) :
    Calls Try.prog 30 #[histV h pv nv] w fun e w' => e = .returned (.int .i64 ((h.err : Nat) : Int)) ∧ Kept (fun _ => False) w w' := by
  obtain ⟨⟨ao, c, rfl⟩, bo, d, rfl⟩ := ha.sl
  have HCP := Lib.hid fun w' (k : Kept (fun _ => False) w w') => checkSide_any h.po h.pl _ w' (ha.on k).p hok.po
  have HCN := Lib.hid fun w' (k : Kept (fun _ => False) w w') => checkSide_any h.no h.nl _ w' (ha.on k).n hok.no
  have HTO := Lib.hid fun w' (k : Kept (fun _ => False) w w') => histTotal_any h _ _ w' (ha.on k) hok.ze hp hn hok.pl hok.nl
  have hsc := hok.sc
  have hE : h.err = if h.sc < -10 ∨ 20 < h.sc then 1 else if sideE h.po h.pl ≠ 0 then sideE h.po h.pl else if sideE h.no h.nl ≠ 0 then sideE h.no h.nl else if 18446744073709551616 ≤ h.total then 4 else 0 := rfl
  obtain ⟨E1, hE1⟩ : ∃ E, E = sideE h.po h.pl := ⟨_, rfl⟩
  obtain ⟨E2, hE2⟩ : ∃ E, E = sideE h.no h.nl := ⟨_, rfl⟩
  rw [← hE1, ← hE2] at hE
  rw [← hE1] at HCP
  rw [← hE2] at HCN
  unfold totV at HTO
  obtain ⟨T, hT⟩ : ∃ E, E = h.total := ⟨_, rfl⟩
  rw [← hT] at hE HTO
  obtain ⟨sc, ze, po, pl, no, nl⟩ := h
  unfold histV at HTO ⊢
  simp only at HCP HCN HTO hp hn hE hsc ⊢
  have hE0 := Lib.hid hE
  have KB := Lib.hid ((Kept.refl (fun _ => False) w).alloc (.cells #[.int .i64 sc, .int .u64 (ze : Int), .int .i64 po, .slice ao pl.length c, .int .i64 no, .slice bo nl.length d] 30))
  have hcase : sc < -10 ∨ (-10 ≤ sc ∧ 20 < sc) ∨ (-10 ≤ sc ∧ ¬ 20 < sc) := by omega
  clear ha hok hE1 hE2 hT hE
  rcases hcase with h1 | ⟨h1, h2⟩ | ⟨h1, h2⟩
  · have HE := Lib.hid (show _ = 1 from hE0.out.trans (if_pos (.inl h1)))
    go_enter Try.func30, Try.ntmps30
    go_wp2
    go_ret
    exact ⟨by rw [HE.out]; rfl, KB.out⟩
  · have HE := Lib.hid (show _ = 1 from hE0.out.trans (if_pos (.inr h2)))
    go_enter Try.func30, Try.ntmps30
    go_wp2
    go_ret
    exact ⟨by rw [HE.out]; rfl, KB.out⟩
  · have HE := Lib.hid (hE0.out.trans (if_neg (by omega)))
    obtain ⟨ER, hER⟩ : ∃ E, E = HistV.err ⟨sc, ze, po, pl, no, nl⟩ := ⟨_, rfl⟩
    rw [← hER] at HE ⊢
    clear hE0 hER
    go_enter Try.func30, Try.ntmps30
    go_wp2
    go_loopg [4, 5, 21, 22, 23, 24, 25, 26, 27, 28, 29] 2 (fun g s4 s5 s21 s22 s23 s24 s25 s26 s27 s28 s29 wr => ∃ k : Nat, k ≤ 2 ∧ g = 2 - k ∧ s21 = .int .i64 k ∧ (k = 0 ∨ k = 1 ∧ E1 = 0 ∨ k = 2 ∧ E1 = 0 ∧ E2 = 0) ∧ Kept (fun _ => False) (w.alloc (.cells #[.int .i64 sc, .int .u64 (ze : Int), .int .i64 po, .slice ao pl.length c, .int .i64 no, .slice bo nl.length d] 30)) wr)
    case atStart => exact ⟨0, by omega, rfl, rfl, .inl rfl, Kept.refl _ _⟩
    case round =>
      obtain ⟨k, hk2, rfl, rfl, hcase, hkw⟩ := hrel
      have HK := Lib.hid (KB.out.trans hkw)
      have HKB := Lib.hid hkw
      clear hkw
      rcases hcase with rfl | ⟨rfl, z1⟩ | ⟨rfl, z1, z2⟩
      · have ix : ∀ w, (Instr.index 91 (.agg #[.int .i64 po, .slice ao pl.length c, .int .i64 no, .slice bo nl.length d]) (.int .i64 0)).run Try.prog w = .ok (.agg #[.int .i64 po, .slice ao pl.length c]) w := fun _ => by kernel_rfl
        by_cases z : E1 = 0
        · have q : ((E1 : Int) != 0) = false := bneF (by omega)
          have Z := Lib.hid z
          clear z hk2
          go_wp2_with (go_at_call 60; refine (HCP.out _ (HK.out.alloc _)).mono ?_; rintro e w1 ⟨rfl, k1⟩; have K1 := Lib.hid ((HKB.out.alloc _).trans k1); clear k1)
          go_roundg 1
          case measure => omega
          case rel => exact ⟨1, by omega, rfl, rfl, .inr (.inl ⟨rfl, Z.out⟩), K1.out⟩
        · have q : ((E1 : Int) != 0) = true := bneT (by omega)
          have HE2 := Lib.hid (HE.out.trans (if_pos z))
          clear z hk2
          go_wp2_with (go_at_call 60; refine (HCP.out _ (HK.out.alloc _)).mono ?_; rintro e w1 ⟨rfl, k1⟩; have K1 := Lib.hid ((HK.out.alloc _).trans k1); clear k1)
          go_ret
          exact ⟨by rw [HE2.out]; rfl, K1.out⟩
      · have ix : ∀ w, (Instr.index 91 (.agg #[.int .i64 po, .slice ao pl.length c, .int .i64 no, .slice bo nl.length d]) (.int .i64 1)).run Try.prog w = .ok (.agg #[.int .i64 no, .slice bo nl.length d]) w := fun _ => by kernel_rfl
        have Z1 := Lib.hid z1
        have HE1 := Lib.hid (HE.out.trans (if_neg (by omega)))
        by_cases z : E2 = 0
        · have q : ((E2 : Int) != 0) = false := bneF (by omega)
          have Z := Lib.hid z
          clear z hk2 z1
          go_wp2_with (go_at_call 60; refine (HCN.out _ (HK.out.alloc _)).mono ?_; rintro e w1 ⟨rfl, k1⟩; have K1 := Lib.hid ((HKB.out.alloc _).trans k1); clear k1)
          go_roundg 0
          case measure => omega
          case rel => exact ⟨2, by omega, rfl, rfl, .inr (.inr ⟨rfl, Z1.out, Z.out⟩), K1.out⟩
        · have q : ((E2 : Int) != 0) = true := bneT (by omega)
          have HE2 := Lib.hid (HE1.out.trans (if_pos z))
          clear z hk2 z1
          go_wp2_with (go_at_call 60; refine (HCN.out _ (HK.out.alloc _)).mono ?_; rintro e w1 ⟨rfl, k1⟩; have K1 := Lib.hid ((HK.out.alloc _).trans k1); clear k1)
          go_ret
          exact ⟨by rw [HE2.out]; rfl, K1.out⟩
      · have HE1 := Lib.hid (HE.out.trans ((if_neg (by omega)).trans (if_neg (by omega))))
        have hbox : wr.heap[w.heap.size]? = some (.cells #[.int .i64 sc, .int .u64 (ze : Int), .int .i64 po, .slice ao pl.length c, .int .i64 no, .slice bo nl.length d] 30 (0, 0)) := HKB.out.same (heap_alloc_new w _) (fun x => x)
        have b0 : wr.cell? ⟨w.heap.size, 0, none⟩ = some (.int .i64 sc) := by rw [cell_of_row _ _ 0 _ _ _ hbox]; rfl
        have b1 : wr.cell? ⟨w.heap.size, 1, none⟩ = some (.int .u64 (ze : Int)) := by rw [cell_of_row _ _ 1 _ _ _ hbox]; rfl
        have b2 : wr.cell? ⟨w.heap.size, 2, none⟩ = some (.int .i64 po) := by rw [cell_of_row _ _ 2 _ _ _ hbox]; rfl
        have b3 : wr.cell? ⟨w.heap.size, 3, none⟩ = some (.slice ao pl.length c) := by rw [cell_of_row _ _ 3 _ _ _ hbox]; rfl
        have b4 : wr.cell? ⟨w.heap.size, 4, none⟩ = some (.int .i64 no) := by rw [cell_of_row _ _ 4 _ _ _ hbox]; rfl
        have b5 : wr.cell? ⟨w.heap.size, 5, none⟩ = some (.slice bo nl.length d) := by rw [cell_of_row _ _ 5 _ _ _ hbox]; rfl
        have HTW := Lib.hid (HTO.out wr HK.out)
        clear z1 z2 hk2 hbox HTO
        by_cases ht : T < 18446744073709551616
        · have HE2 := Lib.hid (HE1.out.trans (if_neg (by omega)))
          rw [if_pos ht, decide_eq_true ht] at HTW
          clear ht
          go_wp2_with (go_at_call 29; refine HTW.out.mono ?_; rintro e w1 ⟨rfl, k1⟩; have K1 := Lib.hid (HK.out.trans k1); clear k1)
          go_ret
          exact ⟨by rw [HE2.out]; rfl, K1.out⟩
        · have HE2 := Lib.hid (HE1.out.trans (if_pos (by omega)))
          rw [if_neg ht, decide_eq_false ht] at HTW
          clear ht
          go_wp2_with (go_at_call 29; refine HTW.out.mono ?_; rintro e w1 ⟨rfl, k1⟩; have K1 := Lib.hid (HK.out.trans k1); clear k1)
          go_ret
          exact ⟨by rw [HE2.out]; rfl, K1.out⟩
end Go.Proofs.Ytiiibhdohlpodaa
namespace Go.Proofs.Ytiiibhdohlpodaa
open Go.RowKit
attribute [local go_sem ↓] Go.wp_at_zero Go.wp_at_succ
theorem Try.infoU64 : (Try.prog.info? 25).map (fun i => (i.zero, i.size, i.bytes)) = some (some (.int .u64 0), 1, 8) := by kernel_rfl
/-- A new slice of the counts. -/
def Fresh64 (w : World) (xs : List Value) (e : Ending) (w' : World) : Prop := ∃ v, e = .returned v ∧ Mine w w' 25 v xs
set_option maxHeartbeats 400000 in
theorem sclone_any (v : Value) (xs : List Value) (w : World) (hv : SlAt w v xs) (h1 : ∀ u ∈ xs, u.oneCell' = true) (hl : xs.length ≤ 100000000000) :
    Calls Try.prog 73 #[v] w (Fresh64 w xs) := by
  obtain ⟨i0, hi, hz0, hz1, hz2⟩ := info_parts Try.infoU64
  have q29 := fun (w : World) (a : Option Addr) (n c n' c' : Nat) => Lib.run_eql_slice_nil (P := Try.prog) w 26 25 a n c n' c' Try.underlying26
  obtain ⟨ao, c, rfl, hn, hcl⟩ := hv.val
  cases ao with
  | none =>
    obtain rfl := hn rfl
    clear hcl hn hv
    go_enter Try.func73, Try.ntmps73
    go_wp2
    go_ret
    exact ⟨_, rfl, Mine.nil _ _⟩
  | some a =>
    have hs := (hv.kept (((Kept.refl (fun _ => False) w).alloc (.cells #[] 25))) (fun _ _ h => h)).src Try.underlying26 h1
    have hown0 : Mine w (w.alloc (.cells #[] 25)) 25 (.slice (some ⟨w.heap.size, 0, none⟩) 0 0) [] :=
      ⟨⟨rfl, .inr ⟨w.heap.size, 0, #[], rfl, Nat.le_refl _, heap_alloc_new w _, Nat.le_refl _, by unfold maxLen; omega, rfl, rfl⟩⟩, (Kept.refl _ _).alloc _⟩
    have HO := Lib.hid hown0
    have HS := Lib.hid hs
    clear hcl hn hv hown0 hs
    go_enter Try.func73, Try.ntmps73
    go_wp2_with (at_builtin; refine wpList_mine rfl (.tmp 5) (.tmp 6) 26 26 rfl 25 i0 (.int .u64 0) 8 Try.underlying26 hi hz0 hz1 hz2 rfl (by omega) w _ [] rfl HO.out _ xs rfl HS.out (by simp; omega) ?_; intro v' w1 hm; have HM := Lib.hid hm; clear hm)
    go_ret
    exact ⟨_, rfl, by have := HM.out; simpa using this⟩
theorem step_mineU {ops : Array Oper} {o : Oper} {a : Act} {K : Act → World → Prop} {Q : Exit → Act → World → Prop} {E : Prop} {w : World} (hgd : o.guard = none) (s x : Operand)
    (ho : o.op = .call { callee := .builtin .append, args := #[s, x], argTypes := #[26, 26] })
    (W : World) (v : Value) (xs : List Value) (hv : a.eval s = v) (hm : Mine W w 25 v xs)
    (y : Value) (news : List Value) (hy : a.eval x = y) (hs : Src Try.prog 1 26 y news.length news w)
    (hl : xs.length + news.length ≤ 1000000000000)
    (h : ∀ v' w', Mine W w' 25 v' (xs ++ news) → Kept (fun k => v.ownBlock = some k) w w' → (v'.ownBlock = v.ownBlock ∨ v'.ownBlock = some w.heap.size) → K (a.put o.dst v') w') :
    if Region.wanted o (yielded ops a.tmps) = true then Oper.wp Try.prog o a w K Q else E := by
  obtain ⟨iI, hiI, hzI0, hzI1, hzI2⟩ := info_parts Try.infoU64
  exact step_mine hgd s x _ _ ho 25 iI (.int .u64 0) 8 Try.underlying26 hiI hzI0 hzI1 hzI2 rfl (by omega) W v xs hv hm y news hy hs hl h
theorem src_oneU (w : World) (u : Value) (hu : u.oneCell' = true) : Src Try.prog 1 26 (.slice (some ⟨w.heap.size, 0, none⟩) 1 1) ([u] : List Value).length [u] (w.alloc (.cells #[u] 25)) := src_one w Try.underlying26 u hu
theorem uvals_append (l m : List Nat) : uvals (l ++ m) = uvals l ++ uvals m := by unfold uvals; rw [List.map_append]
end Go.Proofs.Ytiiibhdohlpodaa
namespace Go.Proofs.Ytiiibhdohlpodaa
open Go.RowKit
attribute [local go_sem ↓] Go.wp_at_zero Go.wp_at_succ
theorem hist_info : (Try.prog.info? 30).map (·.size) = some 6 := by kernel_rfl
/-- A histogram in its block. -/
def HistBox (w : World) (q : Nat) (h : HistV) (pv nv : Value) : Prop := w.heap[q]? = some (.cells #[.int .i64 h.sc, .int .u64 (h.ze : Int), .int .i64 h.po, pv, .int .i64 h.no, nv] 30 (0, 0))
theorem HistBox.c {w : World} {q : Nat} {h : HistV} {pv nv : Value} (b : HistBox w q h pv nv) : w.cell? ⟨q, 0, none⟩ = some (.int .i64 h.sc) ∧ w.cell? ⟨q, 1, none⟩ = some (.int .u64 (h.ze : Int)) ∧ w.cell? ⟨q, 2, none⟩ = some (.int .i64 h.po) ∧ w.cell? ⟨q, 3, none⟩ = some pv ∧ w.cell? ⟨q, 4, none⟩ = some (.int .i64 h.no) ∧ w.cell? ⟨q, 5, none⟩ = some nv := by
  refine ⟨?_, ?_, ?_, ?_, ?_, ?_⟩
  · rw [cell_of_row _ _ 0 _ _ _ b]; rfl
  · rw [cell_of_row _ _ 1 _ _ _ b]; rfl
  · rw [cell_of_row _ _ 2 _ _ _ b]; rfl
  · rw [cell_of_row _ _ 3 _ _ _ b]; rfl
  · rw [cell_of_row _ _ 4 _ _ _ b]; rfl
  · rw [cell_of_row _ _ 5 _ _ _ b]; rfl
theorem HistBox.f {w : World} {q : Nat} {h : HistV} {pv nv : Value} (b : HistBox w q h pv nv) : w.frozen? ⟨q, 0, none⟩ = false ∧ w.frozen? ⟨q, 1, none⟩ = false ∧ w.frozen? ⟨q, 2, none⟩ = false ∧ w.frozen? ⟨q, 3, none⟩ = false ∧ w.frozen? ⟨q, 4, none⟩ = false ∧ w.frozen? ⟨q, 5, none⟩ = false := by
  unfold HistBox at b; simp [World.frozen?, b]
theorem HistBox.same {S : Nat → Prop} {w w' : World} {q : Nat} {h : HistV} {pv nv : Value} (b : HistBox w q h pv nv) (hk : Kept S w w') (hn : ¬ S q) : HistBox w' q h pv nv := hk.same b hn
/-- Six cells are set one behind the other. -/
def set6 (w : World) (q : Nat) (a b c d e f : Value) : World := (((((w.setCell ⟨q, 0, none⟩ a).setCell ⟨q, 1, none⟩ b).setCell ⟨q, 2, none⟩ c).setCell ⟨q, 3, none⟩ d).setCell ⟨q, 4, none⟩ e).setCell ⟨q, 5, none⟩ f
theorem HistBox.set {w : World} {q : Nat} {h : HistV} {pv nv : Value} (b : HistBox w q h pv nv) (h' : HistV) (pv' nv' : Value) : HistBox (set6 w q (.int .i64 h'.sc) (.int .u64 (h'.ze : Int)) (.int .i64 h'.po) pv' (.int .i64 h'.no) nv') q h' pv' nv' := by
  unfold HistBox set6 at *; simp [World.setCell, Array.getElem?_modify, b]
theorem set6_kept (w : World) (q : Nat) (a b c d e f : Value) : Kept (fun k => k = q) w (set6 w q a b c d e f) :=
  ((((((Kept.refl (fun k => k = q) w).setCell (p := ⟨q, 0, none⟩) (fun _ => rfl) a).setCell (p := ⟨q, 1, none⟩) (fun _ => rfl) b).setCell (p := ⟨q, 2, none⟩) (fun _ => rfl) c).setCell (p := ⟨q, 3, none⟩) (fun _ => rfl) d).setCell (p := ⟨q, 4, none⟩) (fun _ => rfl) e).setCell (p := ⟨q, 5, none⟩) (fun _ => rfl) f
theorem Mine.set6 {W w : World} {v : Value} {xs : List Value} {q : Nat} {h : HistV} {pv nv : Value} (m : Mine W w 25 v xs) (hb : HistBox w q h pv nv) (hq : W.heap.size ≤ q) (a b c d e f : Value) : Mine W (set6 w q a b c d e f) 25 v xs :=
  m.keptS (set6_kept w q a b c d e f) (fun k e x => own_box m.own hb (by decide) (by rw [e, x])) (fun k e => by omega)
theorem hist_end {fn : Func} {p s : Tmp} {a : Act} {P : Ending → World → Prop} {w : World} {q : Nat} {h : HistV} {pv nv x : Value} (hres : fn.results = #[.cell p 30, .tmp s]) (hp : a.tmps.getD p undef = .pointer (some ⟨q, 0, none⟩)) (hx : a.tmps.getD s undef = x) (hd : a.defers = [])
    (hg : HistBox w q h pv nv) (hP : P (.returned (.tuple #[histV h pv nv, x])) w) : bodyPost Try.prog fn P .ret a w := by
  refine bodyPost_ret (v := .tuple #[histV h pv nv, x]) ?_ hd hP
  have hp' : a.tmps[p]?.getD undef = .pointer (some ⟨q, 0, none⟩) := by simpa using hp
  have hx' : a.tmps[s]?.getD undef = x := by simpa using hx
  have hl := run_loadVar_row (P := Try.prog) w q 30 30 _ (0, 0) _ hg Try.underlying30 rfl hist_info
  simp [results, hres, hp', hx', asAddr, hl, histV]
def zeroH : HistV := ⟨0, 0, 0, [], 0, []⟩
theorem err_light {h : HistV} (he : h.err = 0) : (-10 ≤ h.sc ∧ h.sc ≤ 20) ∧ sideE h.po h.pl = 0 ∧ sideE h.no h.nl = 0 ∧ h.total < 18446744073709551616 := by
  unfold HistV.err at he
  split at he
  · omega
  · split at he
    · omega
    · split at he
      · omega
      · split at he
        · omega
        · refine ⟨by omega, by omega, by omega, by omega⟩
theorem sideE_zero {o : Int} {l : List Nat} (h : sideE o l = 0) : l.length ≤ 160 ∧ (l.length = 0 → o = 0) ∧ (l.length ≠ 0 → l.getD 0 0 ≠ 0 ∧ l.getD (l.length - 1) 0 ≠ 0 ∧ -1073741824 ≤ o ∧ o + (l.length : Int) - 1 ≤ 1073741824) := by
  unfold sideE at h
  split at h
  · omega
  · split at h
    · split at h
      · refine ⟨by omega, fun _ => by assumption, fun h' => absurd (by assumption) h'⟩
      · omega
    · split at h
      · omega
      · split at h
        · omega
        · rename_i h1 h2 h3 h4
          refine ⟨by omega, fun h' => absurd h' h2, fun _ => ⟨fun e => h3 (.inl e), fun e => h3 (.inr e), by omega, by omega⟩⟩
/-- A histogram that came in. -/
structure HistIn (W : World) (h : HistV) (pv nv : Value) : Prop where
  at_ : HistAt W h pv nv
  ok : h.ok
  cp : ∀ a n c, pv = .slice a n c → n ≤ c
  cn : ∀ a n c, nv = .slice a n c → n ≤ c
theorem hist_boxed (W : World) (h : HistV) (pv nv : Value) : HistBox (W.alloc (.cells #[.int .i64 h.sc, .int .u64 (h.ze : Int), .int .i64 h.po, pv, .int .i64 h.no, nv] 30)) W.heap.size h pv nv := heap_alloc_new W _
theorem side_info : (Try.prog.info? 28).map (·.size) = some 2 := by kernel_rfl
/-- A side in its block. -/
def SideBox (w : World) (q : Nat) (o : Int) (v : Value) : Prop := w.heap[q]? = some (.cells #[.int .i64 o, v] 28 (0, 0))
theorem SideBox.c {w : World} {q : Nat} {o : Int} {v : Value} (h : SideBox w q o v) : (w.cell? ⟨q, 0, none⟩ = some (.int .i64 o) ∧ w.cell? ⟨q, 1, none⟩ = some v) ∧ w.frozen? ⟨q, 0, none⟩ = false ∧ w.frozen? ⟨q, 1, none⟩ = false := by
  refine ⟨⟨?_, ?_⟩, ?_⟩
  · rw [cell_of_row _ _ 0 _ _ _ h]; rfl
  · rw [cell_of_row _ _ 1 _ _ _ h]; rfl
  · unfold SideBox at h; simp [World.frozen?, h]
theorem SideBox.set {w : World} {q : Nat} {o : Int} {v : Value} (h : SideBox w q o v) (o' : Int) (v' : Value) : SideBox ((w.setCell ⟨q, 0, none⟩ (.int .i64 o')).setCell ⟨q, 1, none⟩ v') q o' v' := by
  unfold SideBox at *; simp [World.setCell, Array.getElem?_modify, h]
theorem SideBox.same {S : Nat → Prop} {w w' : World} {q : Nat} {o : Int} {v : Value} (h : SideBox w q o v) (hk : Kept S w w') (hn : ¬ S q) : SideBox w' q o v := hk.same h hn
theorem side_end {fn : Func} {p : Tmp} {a : Act} {P : Ending → World → Prop} {w : World} {q : Nat} {o : Int} {v : Value} (hres : fn.results = #[.cell p 28]) (hp : a.tmps.getD p undef = .pointer (some ⟨q, 0, none⟩)) (hd : a.defers = [])
    (hg : SideBox w q o v) (h : P (.returned (.agg #[.int .i64 o, v])) w) : bodyPost Try.prog fn P .ret a w :=
  bodyPost_ret (v := .agg #[.int .i64 o, v]) (results_cell_row hres _ _ q 28 _ (0, 0) _ hp hg Try.underlying28 rfl side_info) hd h
end Go.Proofs.Ytiiibhdohlpodaa
namespace Go.Proofs.Ytiiibhdohlpodaa
open Go.RowKit
attribute [local go_sem ↓] Go.wp_at_zero Go.wp_at_succ
theorem six_set3 {w : World} {g : Nat} {a b c d e f x : Value} {T : TypeId} (h : w.heap[g]? = some (.cells #[a, b, c, d, e, f] T (0, 0))) : (w.setCell ⟨g, 3, none⟩ x).heap[g]? = some (.cells #[a, b, c, x, e, f] T (0, 0)) := by
  have h1 := heap_setCell_same _ _ 3 _ _ x h
  simpa using h1
theorem six_set5 {w : World} {g : Nat} {a b c d e f x : Value} {T : TypeId} (h : w.heap[g]? = some (.cells #[a, b, c, d, e, f] T (0, 0))) : (w.setCell ⟨g, 5, none⟩ x).heap[g]? = some (.cells #[a, b, c, d, e, x] T (0, 0)) := by
  have h1 := heap_setCell_same _ _ 5 _ _ x h
  simpa using h1
theorem cell_other9 {w : World} {g k : Nat} {o : Nat} {x : Value} (h : k ≠ g) : (w.setCell ⟨g, o, none⟩ x).heap[k]? = w.heap[k]? := Below.heap_setCell _ _ _ _ (fun e => h e)
theorem mine_box {W w : World} {v : Value} {xs : List Value} {k : Nat} {cs : Array Value} (h : Mine W w 25 v xs) (hb : w.heap[k]? = some (.cells cs 30 (0, 0))) : v.ownBlock ≠ some k := own_box h.own hb (by decide)
set_option maxHeartbeats 2000000 in
theorem hclone_any (h : HistV) (pv nv : Value) (w : World) (ha : HistAt w h pv nv) (hp : h.pl.length ≤ 1000000) (hn : h.nl.length ≤ 1000000) :
    Calls Try.prog 51 #[histV h pv nv] w fun e w' => ∃ p n, e = .returned (histV h p n) ∧ Mine w w' 25 p (uvals h.pl) ∧ Mine w w' 25 n (uvals h.nl) := by
  obtain ⟨⟨ao, c, rfl⟩, bo, d, rfl⟩ := ha.sl
  obtain ⟨sc, ze, po, pl, no, nl⟩ := h
  unfold histV
  simp only at hp hn ha ⊢
  obtain ⟨w0, hw0⟩ : ∃ w0, w0 = (w.alloc (.cells #[.int .i64 sc, .int .u64 (ze : Int), .int .i64 po, .slice ao pl.length c, .int .i64 no, .slice bo nl.length d] 30)).alloc (.cells #[.int .i64 0, .int .u64 0, .int .i64 0, .slice none 0 0, .int .i64 0, .slice none 0 0] 30) := ⟨_, rfl⟩
  have K0 : Kept (fun _ => False) w w0 := by rw [hw0]; exact ((Kept.refl _ _).alloc _).alloc _
  have h1 : w0.heap[w.heap.size]? = some (.cells #[.int .i64 sc, .int .u64 (ze : Int), .int .i64 po, .slice ao pl.length c, .int .i64 no, .slice bo nl.length d] 30 (0, 0)) := by
    rw [hw0]; exact ((Kept.refl (fun _ => False) _).alloc _).same (heap_alloc_new w _) (fun x => x)
  have h2 : w0.heap[w.heap.size + 1]? = some (.cells #[.int .i64 0, .int .u64 0, .int .i64 0, .slice none 0 0, .int .i64 0, .slice none 0 0] 30 (0, 0)) := by
    rw [hw0]
    have := heap_alloc_new (w.alloc (.cells #[.int .i64 sc, .int .u64 (ze : Int), .int .i64 po, .slice ao pl.length c, .int .i64 no, .slice bo nl.length d] 30)) (.cells #[.int .i64 0, .int .u64 0, .int .i64 0, .slice none 0 0, .int .i64 0, .slice none 0 0] 30)
    simpa using this
  have HA := Lib.hid ha
  have HK0 := Lib.hid K0
  have H1 := Lib.hid h1
  have H2 := Lib.hid h2
  have HW0 := Lib.hid hw0
  have HL := Lib.hid (And.intro hp hn)
  obtain ⟨q, hq⟩ : ∃ q, q = w.heap.size := ⟨_, rfl⟩
  have HQ := Lib.hid hq
  rw [← hq] at H1 H2
  clear ha K0 h1 h2 hw0 hp hn hq
  go_enter Try.func51, Try.ntmps51
  go_upto_region 1 with fail
  rw [← HW0.out, ← HQ.out]
  obtain ⟨x0, x1, x2, x3, x4, x5⟩ := HistBox.c (h := ⟨sc, ze, po, pl, no, nl⟩) (show HistBox w0 q ⟨sc, ze, po, pl, no, nl⟩ _ _ from H1.out)
  go_wp2_with fail
  refine (sclone_any (.slice ao pl.length c) (uvals pl) w0 (HA.out.on HK0.out).p (uvals_one _) (by rw [uvals_length]; have := HL.out.1; omega)).mono ?_
  rintro e w1 ⟨v1, rfl, hm1⟩
  obtain ⟨a1, c1, rfl⟩ := hm1.slice
  rw [uvals_length] at hm1 ⊢
  have HM1 := Lib.hid hm1
  have H1a := Lib.hid (hm1.kept.same H1.out (fun x => x))
  have H2a := Lib.hid (hm1.kept.same H2.out (fun x => x))
  have y := HistBox.f (h := ⟨sc, ze, po, pl, no, nl⟩) (show HistBox w1 q ⟨sc, ze, po, pl, no, nl⟩ _ _ from H1a.out)
  obtain ⟨z0, z1, z2, z3, z4, z5⟩ := HistBox.c (h := ⟨sc, ze, po, pl, no, nl⟩) (show HistBox w1 q ⟨sc, ze, po, pl, no, nl⟩ _ _ from H1a.out)
  clear hm1 x0 x1 x2 x3 x4 x5
  go_upto_region 2 with fail
  have hks := (Kept.refl (fun k => k = q) w1).setCell (p := ⟨q, 3, none⟩) (fun _ => rfl) (.slice a1 pl.length c1)
  have H1b := Lib.hid (six_set3 (x := .slice a1 pl.length c1) H1a.out)
  have H2b := Lib.hid ((cell_other9 (w := w1) (g := q) (k := q + 1) (o := 3) (x := .slice a1 pl.length c1) (by omega)).trans H2a.out)
  have HKs := Lib.hid ((HK0.out.trans HM1.out.kept).setCell (p := ⟨q, 3, none⟩) (fun hlt => by simp only at hlt; have := HQ.out; omega) (.slice a1 pl.length c1))
  have HM1b := Lib.hid ((HM1.out.down HK0.out).keptS hks (fun k e x => mine_box HM1.out H1a.out (by rw [e, x])) (fun k e => by have := HQ.out; omega))
  obtain ⟨ws, hws⟩ : ∃ ws, ws = w1.setCell ⟨q, 3, none⟩ (.slice a1 pl.length c1) := ⟨_, rfl⟩
  rw [← hws] at H1b H2b HKs HM1b ⊢
  clear hws hks y z0 z1 z2 z3 z4 z5
  obtain ⟨x0, x1, x2, x3, x4, x5⟩ := HistBox.c (h := ⟨sc, ze, po, pl, no, nl⟩) (show HistBox ws q ⟨sc, ze, po, pl, no, nl⟩ _ _ from H1b.out)
  go_wp2_with fail
  refine (sclone_any (.slice bo nl.length d) (uvals nl) ws (HA.out.on HKs.out).n (uvals_one _) (by rw [uvals_length]; have := HL.out.2; omega)).mono ?_
  rintro e w2 ⟨v2, rfl, hm2⟩
  obtain ⟨a2, c2, rfl⟩ := hm2.slice
  rw [uvals_length] at hm2 ⊢
  have HM2 := Lib.hid hm2
  have HM1c := Lib.hid (HM1b.out.on hm2.kept)
  have H1c := Lib.hid (hm2.kept.same H1b.out (fun x => x))
  have H2c := Lib.hid (hm2.kept.same H2b.out (fun x => x))
  have y := HistBox.f (h := ⟨sc, ze, po, pl, no, nl⟩) (show HistBox w2 q ⟨sc, ze, po, pl, no, nl⟩ _ _ from H1c.out)
  obtain ⟨z0, z1, z2, z3, z4, z5⟩ := HistBox.c (h := ⟨sc, ze, po, pl, no, nl⟩) (show HistBox w2 q ⟨sc, ze, po, pl, no, nl⟩ _ _ from H1c.out)
  clear hm2 x0 x1 x2 x3 x4 x5
  go_upto_region 3 with fail
  have hks := (Kept.refl (fun k => k = q) w2).setCell (p := ⟨q, 5, none⟩) (fun _ => rfl) (.slice a2 nl.length c2)
  have H1d := Lib.hid (six_set5 (x := .slice a2 nl.length c2) H1c.out)
  have H2d := Lib.hid ((cell_other9 (w := w2) (g := q) (k := q + 1) (o := 5) (x := .slice a2 nl.length c2) (by omega)).trans H2c.out)
  have HM1d := Lib.hid (HM1c.out.keptS hks (fun k e x => mine_box HM1c.out H1c.out (by rw [e, x])) (fun k e => by have := HQ.out; omega))
  have HM2d := Lib.hid ((HM2.out.down HKs.out).keptS hks (fun k e x => mine_box HM2.out H1c.out (by rw [e, x])) (fun k e => by have := HQ.out; omega))
  obtain ⟨wt, hwt⟩ : ∃ ws, ws = w2.setCell ⟨q, 5, none⟩ (.slice a2 nl.length c2) := ⟨_, rfl⟩
  rw [← hwt] at H1d H2d HM1d HM2d ⊢
  clear hwt hks y z0 z1 z2 z3 z4 z5
  obtain ⟨x0, x1, x2, x3, x4, x5⟩ := HistBox.c (h := ⟨sc, ze, po, pl, no, nl⟩) (show HistBox wt q ⟨sc, ze, po, pl, no, nl⟩ _ _ from H1d.out)
  have hz := show HistBox wt (q + 1) zeroH (.slice none 0 0) (.slice none 0 0) from H2d.out
  obtain ⟨z0, z1, z2, z3, z4, z5⟩ := hz.c
  have y := hz.f
  have hset := Lib.hid (hz.set ⟨sc, ze, po, pl, no, nl⟩ (.slice a1 pl.length c1) (.slice a2 nl.length c2))
  have hk6 := Lib.hid (set6_kept wt (q + 1) (.int .i64 sc) (.int .u64 (ze : Int)) (.int .i64 po) (.slice a1 pl.length c1) (.int .i64 no) (.slice a2 nl.length c2))
  clear hz
  go_wp2
  refine bodyPost_ret (v := .agg #[.int .i64 sc, .int .u64 (ze : Int), .int .i64 po, .slice a1 pl.length c1, .int .i64 no, .slice a2 nl.length c2]) ?_ rfl ?_
  · exact results_cell_row Try.results51 _ _ (q + 1) 30 _ (0, 0) _ (by rw [HQ.out]; rfl) hset.out Try.underlying30 rfl hist_info
  · exact ⟨_, _, rfl, HM1d.out.keptS hk6.out (fun k e x => mine_box HM1d.out H2d.out (by rw [e, x])) (fun k e => by have := HQ.out; omega), HM2d.out.keptS hk6.out (fun k e x => mine_box HM2d.out H2d.out (by rw [e, x])) (fun k e => by have := HQ.out; omega)⟩
end Go.Proofs.Ytiiibhdohlpodaa
namespace Go.Proofs.Ytiiibhdohlpodaa
open Go.RowKit
attribute [local go_sem ↓] Go.wp_at_zero Go.wp_at_succ
end Go.Proofs.Ytiiibhdohlpodaa
namespace Go.Proofs.Ytiiibhdohlpodaa
open Go.RowKit
attribute [local go_sem ↓] Go.wp_at_zero Go.wp_at_succ
set_option maxHeartbeats 1000000 in
theorem refLight_any (h : HistV) (pv nv : Value) (w : World) (ha : HistAt w h pv nv) :
    Calls Try.prog 21 #[histV h pv nv] w fun e w' => e = .returned (.bool (decide (h.pl.length ≤ 300 ∧ h.nl.length ≤ 300))) ∧ Kept (fun _ => False) w w' := by
  obtain ⟨⟨ao, c, rfl⟩, bo, d, rfl⟩ := ha.sl
  have hres : h.pl.length ≤ 300 ∧ h.nl.length ≤ 300 ∨ ¬ (h.pl.length ≤ 300 ∧ h.nl.length ≤ 300) := Decidable.em _
  obtain ⟨A, hA⟩ : ∃ A, A = h.pl.length := ⟨_, rfl⟩
  obtain ⟨B, hB⟩ : ∃ A, A = h.nl.length := ⟨_, rfl⟩
  rw [← hA, ← hB]
  obtain ⟨sc, ze, po, pl, no, nl⟩ := h
  unfold histV
  simp only
  clear ha hA hB hres
  by_cases h1 : A ≤ 300
  · have q1 : (A : Int) ≤ 300 := by omega
    have q1b : decide (A ≤ 300) = true := decide_eq_true h1
    by_cases h2 : B ≤ 300
    · have q2 : (B : Int) ≤ 300 := by omega
      have q2b : decide (B ≤ 300) = true := decide_eq_true h2
      rw [decide_eq_true ⟨h1, h2⟩]
      go_enter Try.func21, Try.ntmps21
      go_wp2
      go_ret
      exact ⟨rfl, (Kept.refl _ _).alloc _⟩
    · have q2 : ¬ (B : Int) ≤ 300 := by omega
      have q2b : decide (B ≤ 300) = false := decide_eq_false h2
      rw [decide_eq_false (show ¬ (A ≤ 300 ∧ B ≤ 300) by omega)]
      go_enter Try.func21, Try.ntmps21
      go_wp2
      go_ret
      exact ⟨rfl, (Kept.refl _ _).alloc _⟩
  · have q1 : ¬ (A : Int) ≤ 300 := by omega
    have q1b : decide (A ≤ 300) = false := decide_eq_false h1
    rw [decide_eq_false (show ¬ (A ≤ 300 ∧ B ≤ 300) by omega)]
    go_enter Try.func21, Try.ntmps21
    go_wp2
    go_ret
    exact ⟨rfl, (Kept.refl _ _).alloc _⟩
end Go.Proofs.Ytiiibhdohlpodaa
namespace Go.Proofs.Ytiiibhdohlpodaa
open Go.RowKit
attribute [local go_sem ↓] Go.wp_at_zero Go.wp_at_succ
end Go.Proofs.Ytiiibhdohlpodaa
namespace Go.Proofs.Ytiiibhdohlpodaa
open Go.RowKit
attribute [local go_sem ↓] Go.wp_at_zero Go.wp_at_succ
end Go.Proofs.Ytiiibhdohlpodaa
namespace Go.Proofs.Ytiiibhdohlpodaa
open Go.RowKit
/-- Is that not a number? -/
def oddI (a : Int) : Bool := decide (a / 4503599627370496 % 2048 = 2047 ∧ a % 4503599627370496 ≠ 0)
/-- Is that finite? -/
def finI (a : Int) : Bool := decide (a / 4503599627370496 % 2048 ≠ 2047)
/-- The one odd one, if that is not a number. -/
def canonI (a : Int) : Int := if oddI a = true then 9221120237041090561 else a
theorem andNot_sign (a : Int) (h0 : 0 ≤ a) (h1 : a ≤ 18446744073709551615) : bits .andNot .u64 a 9223372036854775808 = a % 9223372036854775808 := by
  rw [u64_andNot a _ h0 (by omega) (by omega) (by omega)]
  have e : a.toNat &&& (18446744073709551615 - (9223372036854775808 : Int).toNat) = a.toNat % 2 ^ 63 := Nat.and_two_pow_sub_one_eq_mod a.toNat 63
  rw [e]; omega
theorem odd_bits (a : Int) (h0 : 0 ≤ a) (h1 : a ≤ 18446744073709551615) : decide (9218868437227405312 < bits .andNot .u64 a 9223372036854775808) = oddI a := by
  rw [andNot_sign a h0 h1]
  unfold oddI
  rw [decide_eq_decide]
  omega
theorem nat_and_shift (n m k : Nat) : n &&& (m <<< k) = ((n >>> k) &&& m) <<< k := by
  apply Nat.eq_of_testBit_eq
  intro i
  simp only [Nat.testBit_and, Nat.testBit_shiftLeft, Nat.testBit_shiftRight]
  by_cases h : k ≤ i
  · simp [h]
  · simp [h]
theorem and_inf (a : Int) (h0 : 0 ≤ a) (h1 : a ≤ 18446744073709551615) : bits .and .u64 a 9218868437227405312 = a / 4503599627370496 % 2048 * 4503599627370496 := by
  rw [u64_and a _ h0 (by omega) (by omega) (by omega)]
  have e := nat_and_shift a.toNat 2047 52
  have e2 : (a.toNat >>> 52) &&& 2047 = (a.toNat >>> 52) % 2 ^ 11 := Nat.and_two_pow_sub_one_eq_mod _ 11
  have e3 : (2047 <<< 52 : Nat) = (9218868437227405312 : Int).toNat := by decide
  rw [e2, e3, Nat.shiftRight_eq_div_pow, Nat.shiftLeft_eq] at e
  rw [e]
  omega
theorem finite_bits (a : Int) (h0 : 0 ≤ a) (h1 : a ≤ 18446744073709551615) : (bits .and .u64 a 9218868437227405312 != 9218868437227405312) = finI a := by
  rw [and_inf a h0 h1]
  unfold finI
  by_cases h : a / 4503599627370496 % 2048 = 2047
  · rw [h]; simp
  · have : a / 4503599627370496 % 2048 * 4503599627370496 ≠ 9218868437227405312 := by omega
    rw [decide_eq_true h, bne_iff_ne]; exact this
/-- A sum's bits, the odd one for what is no number. -/
def addI (a b : Int) : Int := match floatBits .add .f64 a.toNat b.toNat with | some r => canonI r | none => 9221120237041090561
def subI (a b : Int) : Int := match floatBits .sub .f64 a.toNat b.toNat with | some r => canonI r | none => 9221120237041090561
/-- The bits that are answered for what is no number. -/
def nanOf (w : World) (x y : Nat) : Nat := (Question.nanBits .f64 x y).cut (w.tape w.drawn (.nanBits .f64 x y))
theorem nanOf_odd (w : World) (x y : Nat) : oddI (nanOf w x y : Int) = true ∧ (nanOf w x y : Int) ≤ 18446744073709551615 := by
  unfold nanOf Question.cut oddI
  generalize w.tape w.drawn (Question.nanBits .f64 x y) = t
  simp only [decide_eq_true_eq]
  have h1 : t % 2 < 2 := Nat.mod_lt _ (by omega)
  have h2 : t / 2 % (2 ^ 52 - 1) < 2 ^ 52 - 1 := Nat.mod_lt _ (by decide)
  generalize t % 2 = s at *
  generalize t / 2 % (2 ^ 52 - 1) = u at *
  omega
end Go.Proofs.Ytiiibhdohlpodaa

