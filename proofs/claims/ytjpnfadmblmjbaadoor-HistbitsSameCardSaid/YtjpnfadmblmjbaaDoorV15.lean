/- package limnographref06: Way, Step. -/
import Derived.Test.YtjpnfadmblmjbaaDoorV14
namespace Go.Proofs.YtjpnfadmblmjbaaDoor
open Go.RowKit
attribute [local go_sem ↓] Go.wp_at_zero Go.wp_at_succ

set_option maxHeartbeats 1000000 in
theorem refWidth_any (c : Nat) (hc : c < 5) (w : World) :
    Calls Tryd.prog 84 #[.int .i64 c] w fun e w' => e = .returned (.int .i64 ((widthW.getD c 0 : Nat) : Int)) ∧ Kept (fun _ => False) w w' := by
  have hcc : c = 0 ∨ c = 1 ∨ c = 2 ∨ c = 3 ∨ c = 4 := by omega
  rcases hcc with rfl | rfl | rfl | rfl | rfl
  all_goals
    go_enter Tryd.func84, Tryd.ntmps84
    go_wp2
    go_ret
    exact ⟨rfl, (Kept.refl _ _).alloc _⟩

theorem widthLit1 (w : World) : Calls Tryd.prog 84 #[.int .i64 1] w fun e w' => e = .returned (.int .i64 6) ∧ Kept (fun _ => False) w w' := refWidth_any 1 (by omega) w
theorem powerLit1 (w : World) : Calls Tryd.prog 80 #[.int .i64 5] w fun e w' => e = .returned (.int .u64 32) ∧ w = w' := refPower_any 5 (by omega) w
theorem widthLit2 (w : World) : Calls Tryd.prog 84 #[.int .i64 2] w fun e w' => e = .returned (.int .i64 10) ∧ Kept (fun _ => False) w w' := refWidth_any 2 (by omega) w
theorem powerLit2 (w : World) : Calls Tryd.prog 80 #[.int .i64 9] w fun e w' => e = .returned (.int .u64 512) ∧ w = w' := refPower_any 9 (by omega) w
theorem widthLit3 (w : World) : Calls Tryd.prog 84 #[.int .i64 3] w fun e w' => e = .returned (.int .i64 16) ∧ Kept (fun _ => False) w w' := refWidth_any 3 (by omega) w
theorem powerLit3 (w : World) : Calls Tryd.prog 80 #[.int .i64 15] w fun e w' => e = .returned (.int .u64 32768) ∧ w = w' := refPower_any 15 (by omega) w

set_option maxHeartbeats 2000000 in
set_option maxRecDepth 100000 in
theorem refWay_any (d : Int) (h0 : -9223372036854775808 ≤ d) (h1 : d ≤ 9223372036854775807) (w : World) :
    Calls Tryd.prog 83 #[.int .i64 d] w fun e w' => e = .returned (.int .i64 ((wayN d : Nat) : Int)) ∧ Kept (fun _ => False) w w' := by
  have hw := wayN_cases d
  have HC := Lib.hid hw
  by_cases hz : d = 0
  · subst hz
    go_enter Tryd.func83, Tryd.ntmps83
    go_wp2
    go_ret
    exact ⟨rfl, Kept.refl _ _⟩
  · have q0 : (d == 0) = false := by simpa using hz
    obtain ⟨K, hK⟩ : ∃ K, K = wayN d := ⟨_, rfl⟩
    rw [← hK] at HC hw ⊢
    have hK1 : 1 ≤ K := by omega
    have W1 := Lib.hid widthLit1
    have W2 := Lib.hid widthLit2
    have W3 := Lib.hid widthLit3
    have P1 := Lib.hid powerLit1
    have P2 := Lib.hid powerLit2
    have P3 := Lib.hid powerLit3
    clear hK hw
    go_enter Tryd.func83, Tryd.ntmps83
    go_wp2
    go_loopg [3, 4] 3 (fun g t _ wr => ∃ c : Nat, 1 ≤ c ∧ c ≤ K ∧ g = 4 - c ∧ t = .int .i64 c ∧ Kept (fun _ => False) w wr)
    case atStart => exact ⟨1, by omega, hK1, rfl, rfl, Kept.refl _ _⟩
    case round =>
      obtain ⟨c, hc1, hc2, rfl, rfl, hk⟩ := hrel
      have HK := Lib.hid hk
      have hcc : c = 1 ∨ c = 2 ∨ c = 3 ∨ c = 4 := by have := HC.out; omega
      have hin : (c < 4 ∧ c = K) ∨ (c < 4 ∧ c < K) ∨ c = 4 := by omega
      clear hk
      rcases hcc with rfl | rfl | rfl | rfl
      case inr.inr.inr =>
        have HE := Lib.hid (show K = 4 by have := HC.out; omega)
        clear hc1 hc2 hin
        go_wp2
        go_ret
        exact ⟨by rw [HE.out]; rfl, HK.out⟩
      all_goals
        rcases hin with ⟨_, hin⟩ | ⟨_, hin⟩ | hin
        case inr.inr => exact absurd hin (by decide)
      case inl.inl =>
        have b1 : -32 ≤ d := by have := HC.out; omega
        have b2 : d < 32 := by have := HC.out; omega
        have HE := Lib.hid hin
        clear hc1 hc2 hin
        go_wp2_with (first
          | (go_at_call 84; refine (W1.out _).mono ?_; rintro e w1 ⟨rfl, hk⟩; have H1 := Lib.hid (HK.out.trans hk); clear hk)
          | (go_at_call 80; refine (P1.out _).mono ?_; rintro e w1 ⟨rfl, rfl⟩))
        go_ret
        exact ⟨by rw [← HE.out]; rfl, H1.out⟩
      case inl.inr.inl =>
        have bb : d < -32 ∨ (-32 ≤ d ∧ 32 ≤ d) := by have := HC.out; omega
        have HE := Lib.hid hin
        clear hc1 hc2 hin
        rcases bb with b1 | ⟨b1, b2⟩
        all_goals
          go_wp2_with (first
            | (go_at_call 84; refine (W1.out _).mono ?_; rintro e w1 ⟨rfl, hk⟩; have H1 := Lib.hid (HK.out.trans hk); clear hk)
            | (go_at_call 80; refine (P1.out _).mono ?_; rintro e w1 ⟨rfl, rfl⟩))
          go_roundg 2
          case measure => omega
          case rel => exact ⟨2, by omega, HE.out, rfl, rfl, H1.out⟩
      case inr.inl.inl =>
        have b1 : -512 ≤ d := by have := HC.out; omega
        have b2 : d < 512 := by have := HC.out; omega
        have HE := Lib.hid hin
        clear hc1 hc2 hin
        go_wp2_with (first
          | (go_at_call 84; refine (W2.out _).mono ?_; rintro e w1 ⟨rfl, hk⟩; have H1 := Lib.hid (HK.out.trans hk); clear hk)
          | (go_at_call 80; refine (P2.out _).mono ?_; rintro e w1 ⟨rfl, rfl⟩))
        go_ret
        exact ⟨by rw [← HE.out]; rfl, H1.out⟩
      case inr.inl.inr.inl =>
        have bb : d < -512 ∨ (-512 ≤ d ∧ 512 ≤ d) := by have := HC.out; omega
        have HE := Lib.hid hin
        clear hc1 hc2 hin
        rcases bb with b1 | ⟨b1, b2⟩
        all_goals
          go_wp2_with (first
            | (go_at_call 84; refine (W2.out _).mono ?_; rintro e w1 ⟨rfl, hk⟩; have H1 := Lib.hid (HK.out.trans hk); clear hk)
            | (go_at_call 80; refine (P2.out _).mono ?_; rintro e w1 ⟨rfl, rfl⟩))
          go_roundg 1
          case measure => omega
          case rel => exact ⟨3, by omega, HE.out, rfl, rfl, H1.out⟩
      case inr.inr.inl.inl =>
        have b1 : -32768 ≤ d := by have := HC.out; omega
        have b2 : d < 32768 := by have := HC.out; omega
        have HE := Lib.hid hin
        clear hc1 hc2 hin
        go_wp2_with (first
          | (go_at_call 84; refine (W3.out _).mono ?_; rintro e w1 ⟨rfl, hk⟩; have H1 := Lib.hid (HK.out.trans hk); clear hk)
          | (go_at_call 80; refine (P3.out _).mono ?_; rintro e w1 ⟨rfl, rfl⟩))
        go_ret
        exact ⟨by rw [← HE.out]; rfl, H1.out⟩
      case inr.inr.inl.inr.inl =>
        have bb : d < -32768 ∨ (-32768 ≤ d ∧ 32768 ≤ d) := by have := HC.out; omega
        have HE := Lib.hid hin
        clear hc1 hc2 hin
        rcases bb with b1 | ⟨b1, b2⟩
        all_goals
          go_wp2_with (first
            | (go_at_call 84; refine (W3.out _).mono ?_; rintro e w1 ⟨rfl, hk⟩; have H1 := Lib.hid (HK.out.trans hk); clear hk)
            | (go_at_call 80; refine (P3.out _).mono ?_; rintro e w1 ⟨rfl, rfl⟩))
          go_roundg 0
          case measure => omega
          case rel => exact ⟨4, by omega, HE.out, rfl, rfl, H1.out⟩

theorem stepB_length (d : Int) : (stepB d).length ≤ 70 := by
  unfold stepB
  have h1 := wayN_le d
  have h2 := width_cases (wayN d) (by omega)
  obtain ⟨S, hS⟩ : ∃ S, S = widthW.getD (wayN d) 0 := ⟨_, rfl⟩
  rw [← hS] at h2 ⊢
  simp only [List.length_append, List.length_replicate, bitsN_length]
  split <;> simp <;> omega

set_option maxHeartbeats 2000000 in
set_option maxRecDepth 100000 in
theorem refStep_any (d : Int) (h0 : -9223372036854775808 ≤ d) (h1 : d ≤ 9223372036854775807) (w : World) :
    Calls Tryd.prog 60 #[.int .i64 d] w fun e w' => ∃ vs, e = .returned vs ∧ Mine w w' 3 vs (ints (stepB d)) := by
  have HU := uN_u64 d
  have hul := uN_lt d
  have hle := wayN_le d
  have HWAY := Lib.hid (refWay_any d h0 h1)
  have HS : Hid (stepB d = List.replicate (wayN d) true ++ (if wayN d < 4 then [false] else []) ++ bitsN (uN d) (widthW.getD (wayN d) 0)) := Lib.hid rfl
  obtain ⟨U, hU⟩ : ∃ U, U = uN d := ⟨_, rfl⟩
  obtain ⟨K, hK⟩ : ∃ K, K = wayN d := ⟨_, rfl⟩
  rw [← hU] at HU hul HS
  rw [← hK] at HWAY hle HS
  have hsc := width_cases K (by omega)
  have HWD := Lib.hid (refWidth_any K (by omega))
  have hs4 : K < 4 → widthW.getD K 0 ≤ 16 := by
    intro h
    have : K = 0 ∨ K = 1 ∨ K = 2 ∨ K = 3 := by omega
    rcases this with rfl | rfl | rfl | rfl <;> simp [widthW]
  obtain ⟨S, hS⟩ : ∃ S, S = widthW.getD K 0 := ⟨_, rfl⟩
  rw [← hS] at HS hsc HWD hs4
  have hS64 : S ≤ 64 := by omega
  have HST := Lib.hid stepB_length
  clear hU hK hS hsc
  go_enter Tryd.func60, Tryd.ntmps60
  go_wp2_with (go_at_call 83; refine (HWAY.out _).mono ?_; rintro e w1 ⟨rfl, hk⟩; have H1 := Lib.hid hk; clear hk)
  go_loopg [4, 5] K (fun g v4 i wr => ∃ m : Nat, m ≤ K ∧ g = K - m ∧ i = .int .i64 m ∧ Mine w wr 3 v4 (ints (List.replicate m true)))
  case atStart => exact ⟨0, Nat.zero_le _, rfl, rfl, Mine.nil' _ H1.out⟩
  case round =>
    obtain ⟨m, hm, rfl, rfl, hmine⟩ := hrel
    have HM := Lib.hid hmine
    clear hmine
    by_cases hd : m < K
    · have hdi : (m : Int) < (K : Int) := by omega
      have HD := Lib.hid hd
      clear hd
      go_wp2_with (at_builtin; refine wpList_mineI rfl (.tmp 16) (.tmp 17) rfl w _ _ rfl (HM.out.alloc _) _ _ rfl (src_oneI wr (.int .i64 1) rfl) ?cl ?_)
      case cl => simp; omega
      intro v' w' hm2
      have HM2 := Lib.hid hm2
      clear hm2
      go_wp2
      go_roundg (K - (m + 1))
      case measure => have := HD.out; omega
      case rel => exact ⟨m + 1, HD.out, rfl, by go_num, by have := HM2.out; rw [List.replicate_succ', ints_append]; exact this⟩
    · have hmK : m = K := by omega
      subst hmK
      have HR2 := fun X hX => Lib.hid (row_of X S hS64 hX)
      clear hd hm
      by_cases hlt : m < 4
      · have HQ := Lib.hid (show stepB d = List.replicate m true ++ [false] ++ bitsN U S from by rw [HS.out, if_pos hlt])
        have q1 : (m : Int) < 4 := by omega
        have q2 : decide (m < 4) = true := decide_eq_true hlt
        have HP := Lib.hid (refPower_any S (by have := hs4 hlt; omega))
        obtain ⟨M, hM⟩ : ∃ M, M = 2 ^ S := ⟨_, rfl⟩
        rw [← hM] at HP
        have hM0 : 0 < M := by rw [hM]; exact Nat.two_pow_pos S
        have hMi : (M : Int) ≠ 0 := by omega
        have hU0 : (0 : Int) ≤ (U : Int) := by omega
        have hMp : (0 : Int) ≤ (M : Int) := by omega
        obtain ⟨X, hX⟩ : ∃ X, X = U % M := ⟨_, rfl⟩
        have hXi : (U : Int) % (M : Int) = (X : Int) := by omega
        have hXt : (U : Int).tmod (M : Int) = (X : Int) := by rw [Int.tmod_eq_emod_of_nonneg hU0]; exact hXi
        have hMq : ((M : Int) == 0) = false := by simp; omega
        have hXl : X < 18446744073709551616 := by rw [hX]; exact Nat.lt_of_le_of_lt (Nat.mod_le _ _) hul
        have hXw : IntKind.u64.wrap (X : Int) = (X : Int) := by rw [IntKind.wrap_u64]; omega
        have HXB := Lib.hid (show bitsN X S = bitsN U S from by rw [hX, hM, bitsN_mod])
        have HRR := HR2 X hXl
        clear hlt hM hX HR2 hs4
        go_wp2_with (first
          | (go_at_call 84; refine (HWD.out _).mono ?_; rintro e w4 ⟨rfl, hk⟩; have HM4 := Lib.hid (HM3.out.on hk); clear hk)
          | (go_at_call 84; refine (HWD.out _).mono ?_; rintro e w3 ⟨rfl, hk⟩; have HM3 := Lib.hid (HM2.out.on hk); clear hk)
          | (go_at_call 80; refine (HP.out _).mono ?_; rintro e w' ⟨rfl, rfl⟩)
          | (go_at_call 51; refine (HRR.out _).mono ?_; rintro e w5 ⟨a5, c5, b5, rfl, ho, hk⟩; have HM5 := Lib.hid (HM4.out.on hk); have HR5 := Lib.hid (SlAt.ofOwn ho); clear ho hk)
          | (at_builtin; refine wpList_mineI rfl (.tmp 21) (.tmp 22) rfl w _ _ rfl (HM.out.alloc _) _ _ rfl (src_oneI wr (.int .i64 0) rfl) (by simp; omega) ?_; intro v2 w2 hm2; have HM2 := Lib.hid hm2; clear hm2)
          | (at_builtin; refine wpList_mineI rfl (.tmp 40) (.tmp 41) rfl w _ _ rfl HM5.out _ _ rfl (by have := HR5.out.src (P := Tryd.prog) Tryd.underlying26 (ints_one _); rw [ints_length, bitsN_length] at this; rw [ints_length, bitsN_length]; exact this) (by simp; omega) ?_; intro v6 w6 hm6; have HM6 := Lib.hid hm6; clear hm6))
        go_ret
        refine ⟨_, rfl, ?_⟩
        have := HM6.out
        rw [HXB.out] at this
        rw [HQ.out, ints_append, ints_append]
        exact this
      · have HQ := Lib.hid (show stepB d = List.replicate m true ++ bitsN U S from by rw [HS.out, if_neg hlt, List.append_nil])
        have q1 : ¬ (m : Int) < 4 := by omega
        have q2 : decide (m < 4) = false := decide_eq_false hlt
        have HRR := HR2 U hul
        clear hlt HR2 hs4
        go_wp2_with (first
          | (go_at_call 84; refine (HWD.out _).mono ?_; rintro e w3 ⟨rfl, hk⟩; have HM4 := Lib.hid (HM.out.on hk); clear hk)
          | (go_at_call 51; refine (HRR.out _).mono ?_; rintro e w5 ⟨a5, c5, b5, rfl, ho, hk⟩; have HM5 := Lib.hid (HM4.out.on hk); have HR5 := Lib.hid (SlAt.ofOwn ho); clear ho hk)
          | (at_builtin; refine wpList_mineI rfl (.tmp 40) (.tmp 41) rfl w _ _ rfl HM5.out _ _ rfl (by have := HR5.out.src (P := Tryd.prog) Tryd.underlying26 (ints_one _); rw [ints_length, bitsN_length] at this; rw [ints_length, bitsN_length]; exact this) (by simp; omega) ?_; intro v6 w6 hm6; have HM6 := Lib.hid hm6; clear hm6))
        go_ret
        refine ⟨_, rfl, ?_⟩
        have := HM6.out
        rw [HQ.out, ints_append]
        exact this
end Go.Proofs.YtjpnfadmblmjbaaDoor
