/- package hist: Total, Check. -/
import Derived.Test.YtjpnfadmblmjbaaDoorH1
namespace Go.Proofs.YtjpnfadmblmjbaaDoor
open Go.RowKit
attribute [local go_sem ↓] Go.wp_at_zero Go.wp_at_succ

/-- The value that a histogram is. -/
def histV (h : HistV) (pv nv : Value) : Value := .agg #[.int .i64 h.sc, .int .u64 (h.ze : Int), .int .i64 h.po, pv, .int .i64 h.no, nv]
/-- Its sides' counts lie in the slices pv and nv. -/
structure HistAt (w : World) (h : HistV) (pv nv : Value) : Prop where
  p : SlAt w pv (uvals h.pl)
  n : SlAt w nv (uvals h.nl)
theorem HistAt.kept {S : Nat → Prop} {w w' : World} {h : HistV} {pv nv : Value} (a : HistAt w h pv nv) (hk : Kept S w w') (hp : ∀ k, pv.ownBlock = some k → ¬ S k) (hn : ∀ k, nv.ownBlock = some k → ¬ S k) : HistAt w' h pv nv := ⟨a.p.kept hk hp, a.n.kept hk hn⟩
theorem HistAt.on {w w' : World} {h : HistV} {pv nv : Value} (a : HistAt w h pv nv) (hk : Kept (fun _ => False) w w') : HistAt w' h pv nv := a.kept hk (fun _ _ x => x) (fun _ _ x => x)
theorem HistAt.sl {w : World} {h : HistV} {pv nv : Value} (a : HistAt w h pv nv) : (∃ ao c, pv = .slice ao h.pl.length c) ∧ ∃ bo d, nv = .slice bo h.nl.length d := by
  obtain ⟨ao, c, e, _⟩ := a.p.val
  obtain ⟨bo, d, e', _⟩ := a.n.val
  rw [uvals_length] at e e'
  exact ⟨⟨ao, c, e⟩, bo, d, e'⟩

/-- What Total answers. -/
def totV (h : HistV) : Value := .tuple #[.int .u64 (((if h.total < 18446744073709551616 then h.total else 0 : Nat)) : Int), .bool (decide (h.total < 18446744073709551616))]

set_option maxHeartbeats 4000000 in
set_option maxRecDepth 100000 in
theorem histTotal_any (h : HistV) (pv nv : Value) (w : World) (ha : HistAt w h pv nv) (hz : h.ze < 18446744073709551616) (hp : h.pl.length ≤ 1000000) (hn : h.nl.length ≤ 1000000) (hpb : ∀ x ∈ h.pl, x < 18446744073709551616) (hnb : ∀ x ∈ h.nl, x < 18446744073709551616) :
    Calls Tryd.prog 88 #[histV h pv nv] w fun e w' => e = .returned (totV h) ∧ Kept (fun _ => False) w w' := by
  obtain ⟨⟨ao, c, rfl⟩, bo, d, rfl⟩ := ha.sl
  obtain ⟨sc, ze, po, pl, no, nl⟩ := h
  have HA := Lib.hid ha
  obtain ⟨TOT, hTOT⟩ : ∃ T, T = sumN (sumN ze pl) nl := ⟨_, rfl⟩
  have htt : HistV.total ⟨sc, ze, po, pl, no, nl⟩ = TOT := hTOT.symm
  have HTOT := Lib.hid hTOT
  have HT2 := Lib.hid (show sumN ze pl ≤ TOT by rw [hTOT]; unfold sumN; omega)
  have HBAD : Hid (18446744073709551616 ≤ TOT → Ending.returned (.tuple #[.int .u64 0, .bool false]) = .returned (totV ⟨sc, ze, po, pl, no, nl⟩)) := Lib.hid fun hb => by
    unfold totV; rw [htt, if_neg (by omega), decide_eq_false (by omega)]; rfl
  have HGOOD : Hid (∀ S : Nat, S = TOT → S < 18446744073709551616 → Ending.returned (.tuple #[.int .u64 (S : Int), .bool true]) = .returned (totV ⟨sc, ze, po, pl, no, nl⟩)) := Lib.hid fun S e hb => by
    unfold totV; rw [htt, ← e, if_pos hb, decide_eq_true hb]
  unfold histV
  simp only at hz hp hn hpb hnb ⊢
  clear ha htt hTOT
  go_enter Tryd.func88, Tryd.ntmps88
  go_wp2
  go_loopg [4, 6, 8, 9, 10, 18, 19, 20, 21, 22, 23, 24, 25, 26, 27, 28, 29, 30, 31, 32, 33, 34, 35, 36, 37, 38] 2 (fun g s4 s6 s8 s9 s10 s18 s19 s20 s21 s22 s23 s24 s25 s26 s27 s28 s29 s30 s31 s32 s33 s34 s35 s36 s37 s38 wr => ∃ (k S : Nat), k ≤ 2 ∧ g = 2 - k ∧ s18 = .int .i64 k ∧ s4 = .int .u64 S ∧ S < 18446744073709551616 ∧ (k = 0 ∧ S = ze ∨ k = 1 ∧ S = sumN ze pl ∨ k = 2 ∧ S = TOT) ∧ Kept (fun _ => False) w wr)
  case atStart => exact ⟨0, ze, by omega, rfl, rfl, rfl, hz, .inl ⟨rfl, rfl⟩, (Kept.refl _ _).alloc _⟩
  case round =>
    obtain ⟨k, S, hk2, rfl, rfl, rfl, hS, hcase, hkw⟩ := hrel
    have HK := Lib.hid hkw
    clear hkw
    rcases hcase with ⟨rfl, hSS⟩ | ⟨rfl, hSS⟩ | ⟨rfl, hSS⟩
    · have HSS := Lib.hid hSS
      clear hSS hk2
      have hcell := fun w' (h : Kept (fun _ => False) w w') i (hi : i < pl.length) => (HA.out.p.kept h (fun _ _ x => x)).elem (uvals_get hi)
      have HC := Lib.hid hcell
      obtain ⟨T, hT⟩ : ∃ T, T = sumN S pl := ⟨_, rfl⟩
      have hstep := fun i (hi : i < pl.length) => sumN_take S pl i hi
      have hle := fun i => sumN_le S pl i
      rw [← hT] at hle
      have HST := Lib.hid hstep
      have HLE := Lib.hid hle
      have HTT := Lib.hid hT
      have ix : ∀ w, (Instr.index 118 (.agg #[.int .i64 po, .slice ao pl.length c, .int .i64 no, .slice bo nl.length d]) (.int .i64 0)).run Tryd.prog w = .ok (.agg #[.int .i64 po, .slice ao pl.length c]) w := fun _ => by kernel_rfl
      clear hcell hstep hle hT
      go_wp2
      obtain ⟨wa, hwa⟩ : ∃ wa, wa = wr.alloc (.cells #[.int .i64 po, .slice ao pl.length c] 60) := ⟨_, rfl⟩
      have KA := Lib.hid (show Kept (fun _ => False) w wa from by rw [hwa]; exact HK.out.alloc _)
      rw [← hwa]
      clear hwa
      go_loopg [4, 8, 9, 10, 24, 25, 26, 27, 28, 29, 30, 31, 32, 33, 34, 35, 36, 37] pl.length (fun g s4 s8 s9 s10 s24 s25 s26 s27 s28 s29 s30 s31 s32 s33 s34 s35 s36 s37 wx => ∃ i : Nat, i ≤ pl.length ∧ g = pl.length - i ∧ s24 = .int .i64 i ∧ s4 = .int .u64 ((sumN S (pl.take i) : Nat) : Int) ∧ sumN S (pl.take i) < 18446744073709551616 ∧ wa = wx)
      case atStart => exact ⟨0, Nat.zero_le _, rfl, rfl, by rw [List.take_zero, sumN_nil], by rw [List.take_zero, sumN_nil]; exact hS, rfl⟩
      case round =>
        obtain ⟨i, hil, rfl, rfl, rfl, hSi, rfl⟩ := hrel
        obtain ⟨X, hX⟩ : ∃ X, X = sumN S (pl.take i) := ⟨_, rfl⟩
        rw [← hX] at hSi ⊢
        by_cases hd : i < pl.length
        · have hdi : (i : Int) < (pl.length : Int) := by omega
          have i0 : (0 : Int) ≤ (i : Int) := by omega
          have HD := Lib.hid hd
          obtain ⟨g, off, rfl, c0⟩ := HC.out wa KA.out i hd
          obtain ⟨y, hy⟩ : ∃ y, y = pl.getD i 0 := ⟨_, rfl⟩
          rw [← hy] at c0
          have hst := HST.out i hd
          rw [← hX, ← hy] at hst
          have hle := HLE.out (i + 1)
          rw [hst] at hle
          have hyb : y < 18446744073709551616 := by rw [hy]; exact getD_u64 hpb i
          have hadd := add64_run X y
          by_cases hov : X + y < 18446744073709551616
          · have m1 : (X + y) % 18446744073709551616 = X + y := Nat.mod_eq_of_lt hov
            have m2 : (X + y) / 18446744073709551616 = 0 := Nat.div_eq_of_lt hov
            rw [m1, m2] at hadd
            obtain ⟨Y, hY⟩ : ∃ Y, Y = X + y := ⟨_, rfl⟩
            rw [← hY] at hadd hst hov
            have HS2 := Lib.hid hst
            have HOV := Lib.hid hov
            clear hY hst hX hy hd hle hyb m1 m2 hov hSi
            go_wp2
            go_roundg (pl.length - (i + 1))
            case measure => have := HD.out; omega
            case rel => exact ⟨i + 1, HD.out, rfl, by go_num, by rw [HS2.out], by rw [HS2.out]; exact HOV.out, rfl⟩
          · have m2 : (X + y) / 18446744073709551616 = 1 := by omega
            rw [m2] at hadd
            obtain ⟨Y, hY⟩ : ∃ Y, Y = (X + y) % 18446744073709551616 := ⟨_, rfl⟩
            rw [← hY] at hadd
            have HBIG := Lib.hid (show 18446744073709551616 ≤ T by omega)
            clear hY hst hX hy hd hle hyb m2 hov hSi
            go_wp2
            go_ret2
            exact ⟨HBAD.out (by have h1 := HBIG.out; have h2 := HTT.out; rw [HSS.out] at h2; have := HT2.out; omega), KA.out⟩
        · obtain rfl : i = pl.length := by omega
          rw [List.take_length, ← HTT.out] at hX
          have HXT := Lib.hid hX
          have HSI := Lib.hid hSi
          clear hd hX hSi
          go_wp2
          go_roundg 1
          case measure => omega
          case rel => exact ⟨1, X, by omega, rfl, rfl, rfl, HSI.out, .inr (.inl ⟨rfl, by rw [HXT.out, HTT.out, HSS.out]⟩), KA.out⟩
    · have HSS := Lib.hid hSS
      clear hSS hk2
      have hcell := fun w' (h : Kept (fun _ => False) w w') i (hi : i < nl.length) => (HA.out.n.kept h (fun _ _ x => x)).elem (uvals_get hi)
      have HC := Lib.hid hcell
      obtain ⟨T, hT⟩ : ∃ T, T = sumN S nl := ⟨_, rfl⟩
      have hstep := fun i (hi : i < nl.length) => sumN_take S nl i hi
      have hle := fun i => sumN_le S nl i
      rw [← hT] at hle
      have HST := Lib.hid hstep
      have HLE := Lib.hid hle
      have HTT := Lib.hid hT
      have ix : ∀ w, (Instr.index 118 (.agg #[.int .i64 po, .slice ao pl.length c, .int .i64 no, .slice bo nl.length d]) (.int .i64 1)).run Tryd.prog w = .ok (.agg #[.int .i64 no, .slice bo nl.length d]) w := fun _ => by kernel_rfl
      clear hcell hstep hle hT
      go_wp2
      obtain ⟨wa, hwa⟩ : ∃ wa, wa = wr.alloc (.cells #[.int .i64 no, .slice bo nl.length d] 60) := ⟨_, rfl⟩
      have KA := Lib.hid (show Kept (fun _ => False) w wa from by rw [hwa]; exact HK.out.alloc _)
      rw [← hwa]
      clear hwa
      go_loopg [4, 8, 9, 10, 24, 25, 26, 27, 28, 29, 30, 31, 32, 33, 34, 35, 36, 37] nl.length (fun g s4 s8 s9 s10 s24 s25 s26 s27 s28 s29 s30 s31 s32 s33 s34 s35 s36 s37 wx => ∃ i : Nat, i ≤ nl.length ∧ g = nl.length - i ∧ s24 = .int .i64 i ∧ s4 = .int .u64 ((sumN S (nl.take i) : Nat) : Int) ∧ sumN S (nl.take i) < 18446744073709551616 ∧ wa = wx)
      case atStart => exact ⟨0, Nat.zero_le _, rfl, rfl, by rw [List.take_zero, sumN_nil], by rw [List.take_zero, sumN_nil]; exact hS, rfl⟩
      case round =>
        obtain ⟨i, hil, rfl, rfl, rfl, hSi, rfl⟩ := hrel
        obtain ⟨X, hX⟩ : ∃ X, X = sumN S (nl.take i) := ⟨_, rfl⟩
        rw [← hX] at hSi ⊢
        by_cases hd : i < nl.length
        · have hdi : (i : Int) < (nl.length : Int) := by omega
          have i0 : (0 : Int) ≤ (i : Int) := by omega
          have HD := Lib.hid hd
          obtain ⟨g, off, rfl, c0⟩ := HC.out wa KA.out i hd
          obtain ⟨y, hy⟩ : ∃ y, y = nl.getD i 0 := ⟨_, rfl⟩
          rw [← hy] at c0
          have hst := HST.out i hd
          rw [← hX, ← hy] at hst
          have hle := HLE.out (i + 1)
          rw [hst] at hle
          have hyb : y < 18446744073709551616 := by rw [hy]; exact getD_u64 hnb i
          have hadd := add64_run X y
          by_cases hov : X + y < 18446744073709551616
          · have m1 : (X + y) % 18446744073709551616 = X + y := Nat.mod_eq_of_lt hov
            have m2 : (X + y) / 18446744073709551616 = 0 := Nat.div_eq_of_lt hov
            rw [m1, m2] at hadd
            obtain ⟨Y, hY⟩ : ∃ Y, Y = X + y := ⟨_, rfl⟩
            rw [← hY] at hadd hst hov
            have HS2 := Lib.hid hst
            have HOV := Lib.hid hov
            clear hY hst hX hy hd hle hyb m1 m2 hov hSi
            go_wp2
            go_roundg (nl.length - (i + 1))
            case measure => have := HD.out; omega
            case rel => exact ⟨i + 1, HD.out, rfl, by go_num, by rw [HS2.out], by rw [HS2.out]; exact HOV.out, rfl⟩
          · have m2 : (X + y) / 18446744073709551616 = 1 := by omega
            rw [m2] at hadd
            obtain ⟨Y, hY⟩ : ∃ Y, Y = (X + y) % 18446744073709551616 := ⟨_, rfl⟩
            rw [← hY] at hadd
            have HBIG := Lib.hid (show 18446744073709551616 ≤ T by omega)
            clear hY hst hX hy hd hle hyb m2 hov hSi
            go_wp2
            go_ret2
            exact ⟨HBAD.out (by have h1 := HBIG.out; have h2 := HTT.out; rw [HSS.out, ← HTOT.out] at h2; omega), KA.out⟩
        · obtain rfl : i = nl.length := by omega
          rw [List.take_length, ← HTT.out] at hX
          have HXT := Lib.hid hX
          have HSI := Lib.hid hSi
          clear hd hX hSi
          go_wp2
          go_roundg 0
          case measure => omega
          case rel => exact ⟨2, X, by omega, rfl, rfl, rfl, HSI.out, .inr (.inr ⟨rfl, by rw [HXT.out, HTT.out, HSS.out, HTOT.out]⟩), KA.out⟩
    · have HSS := Lib.hid hSS
      clear hSS hk2
      have HS := Lib.hid hS
      clear hS
      go_wp2
      go_ret2
      exact ⟨HGOOD.out S HSS.out HS.out, HK.out⟩
end Go.Proofs.YtjpnfadmblmjbaaDoor
