/- Texts put together: V15, V16, V17, V18. -/
import Derived.Test.YtjpnfadmblmjbaaDoorZz5
import Derived.Deep.RegionHeld3
/- package limnographref06: Way, Step. -/
namespace Go.Proofs.YtjpnfadmblmjbaaDoor
open Go.RowKit
attribute [local go_sem ↓] Go.wp_at_zero Go.wp_at_succ

set_option maxHeartbeats 1000000 in
theorem refWidth_any (c : Nat) (hc : c < 5) (w : World) :
    Calls Tryd.prog 84 #[.int .i64 c] w fun e w' => e = .returned (.int .i64 ((widthW.getD c 0 : Nat) : Int)) ∧ Kept (fun _ => False) w w' := by
  have hcc : c = 0 ∨ c = 1 ∨ c = 2 ∨ c = 3 ∨ c = 4 := by omega
  rcases hcc with rfl | rfl | rfl | rfl | rfl
  all_goals
    go_enter Tryd.func84, Tryd.ntmps84
    go_wp2
    go_ret
    exact ⟨rfl, (Kept.refl _ _).alloc _⟩

theorem widthLit1 (w : World) : Calls Tryd.prog 84 #[.int .i64 1] w fun e w' => e = .returned (.int .i64 6) ∧ Kept (fun _ => False) w w' := refWidth_any 1 (by omega) w
theorem powerLit1 (w : World) : Calls Tryd.prog 80 #[.int .i64 5] w fun e w' => e = .returned (.int .u64 32) ∧ w = w' := refPower_any 5 (by omega) w
theorem widthLit2 (w : World) : Calls Tryd.prog 84 #[.int .i64 2] w fun e w' => e = .returned (.int .i64 10) ∧ Kept (fun _ => False) w w' := refWidth_any 2 (by omega) w
theorem powerLit2 (w : World) : Calls Tryd.prog 80 #[.int .i64 9] w fun e w' => e = .returned (.int .u64 512) ∧ w = w' := refPower_any 9 (by omega) w
theorem widthLit3 (w : World) : Calls Tryd.prog 84 #[.int .i64 3] w fun e w' => e = .returned (.int .i64 16) ∧ Kept (fun _ => False) w w' := refWidth_any 3 (by omega) w
theorem powerLit3 (w : World) : Calls Tryd.prog 80 #[.int .i64 15] w fun e w' => e = .returned (.int .u64 32768) ∧ w = w' := refPower_any 15 (by omega) w

set_option maxHeartbeats 2000000 in
set_option maxRecDepth 100000 in
theorem refWay_any (d : Int) (h0 : -9223372036854775808 ≤ d) (h1 : d ≤ 9223372036854775807) (w : World) :
    Calls Tryd.prog 83 #[.int .i64 d] w fun e w' => e = .returned (.int .i64 ((wayN d : Nat) : Int)) ∧ Kept (fun _ => False) w w' := by
  have hw := wayN_cases d
  have HC := Lib.hid hw
  by_cases hz : d = 0
  · subst hz
    go_enter Tryd.func83, Tryd.ntmps83
    go_wp2
    go_ret
    exact ⟨rfl, Kept.refl _ _⟩
  · have q0 : (d == 0) = false := by simpa using hz
    obtain ⟨K, hK⟩ : ∃ K, K = wayN d := ⟨_, rfl⟩
    rw [← hK] at HC hw ⊢
    have hK1 : 1 ≤ K := by omega
    have W1 := Lib.hid widthLit1
    have W2 := Lib.hid widthLit2
    have W3 := Lib.hid widthLit3
    have P1 := Lib.hid powerLit1
    have P2 := Lib.hid powerLit2
    have P3 := Lib.hid powerLit3
    clear hK hw
    go_enter Tryd.func83, Tryd.ntmps83
    go_wp2
    go_loopg [3, 4] 3 (fun g t _ wr => ∃ c : Nat, 1 ≤ c ∧ c ≤ K ∧ g = 4 - c ∧ t = .int .i64 c ∧ Kept (fun _ => False) w wr)
    case atStart => exact ⟨1, by omega, hK1, rfl, rfl, Kept.refl _ _⟩
    case round =>
      obtain ⟨c, hc1, hc2, rfl, rfl, hk⟩ := hrel
      have HK := Lib.hid hk
      have hcc : c = 1 ∨ c = 2 ∨ c = 3 ∨ c = 4 := by have := HC.out; omega
      have hin : (c < 4 ∧ c = K) ∨ (c < 4 ∧ c < K) ∨ c = 4 := by omega
      clear hk
      rcases hcc with rfl | rfl | rfl | rfl
      case inr.inr.inr =>
        have HE := Lib.hid (show K = 4 by have := HC.out; omega)
        clear hc1 hc2 hin
        go_wp2
        go_ret
        exact ⟨by rw [HE.out]; rfl, HK.out⟩
      all_goals
        rcases hin with ⟨_, hin⟩ | ⟨_, hin⟩ | hin
        case inr.inr => exact absurd hin (by decide)
      case inl.inl =>
        have b1 : -32 ≤ d := by have := HC.out; omega
        have b2 : d < 32 := by have := HC.out; omega
        have HE := Lib.hid hin
        clear hc1 hc2 hin
        go_wp2_with (first
          | (go_at_call 84; refine (W1.out _).mono ?_; rintro e w1 ⟨rfl, hk⟩; have H1 := Lib.hid (HK.out.trans hk); clear hk)
          | (go_at_call 80; refine (P1.out _).mono ?_; rintro e w1 ⟨rfl, rfl⟩))
        go_ret
        exact ⟨by rw [← HE.out]; rfl, H1.out⟩
      case inl.inr.inl =>
        have bb : d < -32 ∨ (-32 ≤ d ∧ 32 ≤ d) := by have := HC.out; omega
        have HE := Lib.hid hin
        clear hc1 hc2 hin
        rcases bb with b1 | ⟨b1, b2⟩
        all_goals
          go_wp2_with (first
            | (go_at_call 84; refine (W1.out _).mono ?_; rintro e w1 ⟨rfl, hk⟩; have H1 := Lib.hid (HK.out.trans hk); clear hk)
            | (go_at_call 80; refine (P1.out _).mono ?_; rintro e w1 ⟨rfl, rfl⟩))
          go_roundg 2
          case measure => omega
          case rel => exact ⟨2, by omega, HE.out, rfl, rfl, H1.out⟩
      case inr.inl.inl =>
        have b1 : -512 ≤ d := by have := HC.out; omega
        have b2 : d < 512 := by have := HC.out; omega
        have HE := Lib.hid hin
        clear hc1 hc2 hin
        go_wp2_with (first
          | (go_at_call 84; refine (W2.out _).mono ?_; rintro e w1 ⟨rfl, hk⟩; have H1 := Lib.hid (HK.out.trans hk); clear hk)
          | (go_at_call 80; refine (P2.out _).mono ?_; rintro e w1 ⟨rfl, rfl⟩))
        go_ret
        exact ⟨by rw [← HE.out]; rfl, H1.out⟩
      case inr.inl.inr.inl =>
        have bb : d < -512 ∨ (-512 ≤ d ∧ 512 ≤ d) := by have := HC.out; omega
        have HE := Lib.hid hin
        clear hc1 hc2 hin
        rcases bb with b1 | ⟨b1, b2⟩
        all_goals
          go_wp2_with (first
            | (go_at_call 84; refine (W2.out _).mono ?_; rintro e w1 ⟨rfl, hk⟩; have H1 := Lib.hid (HK.out.trans hk); clear hk)
            | (go_at_call 80; refine (P2.out _).mono ?_; rintro e w1 ⟨rfl, rfl⟩))
          go_roundg 1
          case measure => omega
          case rel => exact ⟨3, by omega, HE.out, rfl, rfl, H1.out⟩
      case inr.inr.inl.inl =>
        have b1 : -32768 ≤ d := by have := HC.out; omega
        have b2 : d < 32768 := by have := HC.out; omega
        have HE := Lib.hid hin
        clear hc1 hc2 hin
        go_wp2_with (first
          | (go_at_call 84; refine (W3.out _).mono ?_; rintro e w1 ⟨rfl, hk⟩; have H1 := Lib.hid (HK.out.trans hk); clear hk)
          | (go_at_call 80; refine (P3.out _).mono ?_; rintro e w1 ⟨rfl, rfl⟩))
        go_ret
        exact ⟨by rw [← HE.out]; rfl, H1.out⟩
      case inr.inr.inl.inr.inl =>
        have bb : d < -32768 ∨ (-32768 ≤ d ∧ 32768 ≤ d) := by have := HC.out; omega
        have HE := Lib.hid hin
        clear hc1 hc2 hin
        rcases bb with b1 | ⟨b1, b2⟩
        all_goals
          go_wp2_with (first
            | (go_at_call 84; refine (W3.out _).mono ?_; rintro e w1 ⟨rfl, hk⟩; have H1 := Lib.hid (HK.out.trans hk); clear hk)
            | (go_at_call 80; refine (P3.out _).mono ?_; rintro e w1 ⟨rfl, rfl⟩))
          go_roundg 0
          case measure => omega
          case rel => exact ⟨4, by omega, HE.out, rfl, rfl, H1.out⟩

theorem stepB_length (d : Int) : (stepB d).length ≤ 70 := by
  unfold stepB
  have h1 := wayN_le d
  have h2 := width_cases (wayN d) (by omega)
  obtain ⟨S, hS⟩ : ∃ S, S = widthW.getD (wayN d) 0 := ⟨_, rfl⟩
  rw [← hS] at h2 ⊢
  simp only [List.length_append, List.length_replicate, bitsN_length]
  split <;> simp <;> omega

set_option maxHeartbeats 2000000 in
set_option maxRecDepth 100000 in
theorem refStep_any (d : Int) (h0 : -9223372036854775808 ≤ d) (h1 : d ≤ 9223372036854775807) (w : World) :
    Calls Tryd.prog 60 #[.int .i64 d] w fun e w' => ∃ vs, e = .returned vs ∧ Mine w w' 3 vs (ints (stepB d)) := by
  have HU := uN_u64 d
  have hul := uN_lt d
  have hle := wayN_le d
  have HWAY := Lib.hid (refWay_any d h0 h1)
  have HS : Hid (stepB d = List.replicate (wayN d) true ++ (if wayN d < 4 then [false] else []) ++ bitsN (uN d) (widthW.getD (wayN d) 0)) := Lib.hid rfl
  obtain ⟨U, hU⟩ : ∃ U, U = uN d := ⟨_, rfl⟩
  obtain ⟨K, hK⟩ : ∃ K, K = wayN d := ⟨_, rfl⟩
  rw [← hU] at HU hul HS
  rw [← hK] at HWAY hle HS
  have hsc := width_cases K (by omega)
  have HWD := Lib.hid (refWidth_any K (by omega))
  have hs4 : K < 4 → widthW.getD K 0 ≤ 16 := by
    intro h
    have : K = 0 ∨ K = 1 ∨ K = 2 ∨ K = 3 := by omega
    rcases this with rfl | rfl | rfl | rfl <;> simp [widthW]
  obtain ⟨S, hS⟩ : ∃ S, S = widthW.getD K 0 := ⟨_, rfl⟩
  rw [← hS] at HS hsc HWD hs4
  have hS64 : S ≤ 64 := by omega
  have HST := Lib.hid stepB_length
  clear hU hK hS hsc
  go_enter Tryd.func60, Tryd.ntmps60
  go_wp2_with (go_at_call 83; refine (HWAY.out _).mono ?_; rintro e w1 ⟨rfl, hk⟩; have H1 := Lib.hid hk; clear hk)
  go_loopg [4, 5] K (fun g v4 i wr => ∃ m : Nat, m ≤ K ∧ g = K - m ∧ i = .int .i64 m ∧ Mine w wr 3 v4 (ints (List.replicate m true)))
  case atStart => exact ⟨0, Nat.zero_le _, rfl, rfl, Mine.nil' _ H1.out⟩
  case round =>
    obtain ⟨m, hm, rfl, rfl, hmine⟩ := hrel
    have HM := Lib.hid hmine
    clear hmine
    by_cases hd : m < K
    · have hdi : (m : Int) < (K : Int) := by omega
      have HD := Lib.hid hd
      clear hd
      go_wp2_with (at_builtin; refine wpList_mineI rfl (.tmp 16) (.tmp 17) rfl w _ _ rfl (HM.out.alloc _) _ _ rfl (src_oneI wr (.int .i64 1) rfl) ?cl ?_)
      case cl => simp; omega
      intro v' w' hm2
      have HM2 := Lib.hid hm2
      clear hm2
      go_wp2
      go_roundg (K - (m + 1))
      case measure => have := HD.out; omega
      case rel => exact ⟨m + 1, HD.out, rfl, by go_num, by have := HM2.out; rw [List.replicate_succ', ints_append]; exact this⟩
    · have hmK : m = K := by omega
      subst hmK
      have HR2 := fun X hX => Lib.hid (row_of X S hS64 hX)
      clear hd hm
      by_cases hlt : m < 4
      · have HQ := Lib.hid (show stepB d = List.replicate m true ++ [false] ++ bitsN U S from by rw [HS.out, if_pos hlt])
        have q1 : (m : Int) < 4 := by omega
        have q2 : decide (m < 4) = true := decide_eq_true hlt
        have HP := Lib.hid (refPower_any S (by have := hs4 hlt; omega))
        obtain ⟨M, hM⟩ : ∃ M, M = 2 ^ S := ⟨_, rfl⟩
        rw [← hM] at HP
        have hM0 : 0 < M := by rw [hM]; exact Nat.two_pow_pos S
        have hMi : (M : Int) ≠ 0 := by omega
        have hU0 : (0 : Int) ≤ (U : Int) := by omega
        have hMp : (0 : Int) ≤ (M : Int) := by omega
        obtain ⟨X, hX⟩ : ∃ X, X = U % M := ⟨_, rfl⟩
        have hXi : (U : Int) % (M : Int) = (X : Int) := by omega
        have hXt : (U : Int).tmod (M : Int) = (X : Int) := by rw [Int.tmod_eq_emod_of_nonneg hU0]; exact hXi
        have hMq : ((M : Int) == 0) = false := by simp; omega
        have hXl : X < 18446744073709551616 := by rw [hX]; exact Nat.lt_of_le_of_lt (Nat.mod_le _ _) hul
        have hXw : IntKind.u64.wrap (X : Int) = (X : Int) := by rw [IntKind.wrap_u64]; omega
        have HXB := Lib.hid (show bitsN X S = bitsN U S from by rw [hX, hM, bitsN_mod])
        have HRR := HR2 X hXl
        clear hlt hM hX HR2 hs4
        go_wp2_with (first
          | (go_at_call 84; refine (HWD.out _).mono ?_; rintro e w4 ⟨rfl, hk⟩; have HM4 := Lib.hid (HM3.out.on hk); clear hk)
          | (go_at_call 84; refine (HWD.out _).mono ?_; rintro e w3 ⟨rfl, hk⟩; have HM3 := Lib.hid (HM2.out.on hk); clear hk)
          | (go_at_call 80; refine (HP.out _).mono ?_; rintro e w' ⟨rfl, rfl⟩)
          | (go_at_call 51; refine (HRR.out _).mono ?_; rintro e w5 ⟨a5, c5, b5, rfl, ho, hk⟩; have HM5 := Lib.hid (HM4.out.on hk); have HR5 := Lib.hid (SlAt.ofOwn ho); clear ho hk)
          | (at_builtin; refine wpList_mineI rfl (.tmp 21) (.tmp 22) rfl w _ _ rfl (HM.out.alloc _) _ _ rfl (src_oneI wr (.int .i64 0) rfl) (by simp; omega) ?_; intro v2 w2 hm2; have HM2 := Lib.hid hm2; clear hm2)
          | (at_builtin; refine wpList_mineI rfl (.tmp 40) (.tmp 41) rfl w _ _ rfl HM5.out _ _ rfl (by have := HR5.out.src (P := Tryd.prog) Tryd.underlying26 (ints_one _); rw [ints_length, bitsN_length] at this; rw [ints_length, bitsN_length]; exact this) (by simp; omega) ?_; intro v6 w6 hm6; have HM6 := Lib.hid hm6; clear hm6))
        go_ret
        refine ⟨_, rfl, ?_⟩
        have := HM6.out
        rw [HXB.out] at this
        rw [HQ.out, ints_append, ints_append]
        exact this
      · have HQ := Lib.hid (show stepB d = List.replicate m true ++ bitsN U S from by rw [HS.out, if_neg hlt, List.append_nil])
        have q1 : ¬ (m : Int) < 4 := by omega
        have q2 : decide (m < 4) = false := decide_eq_false hlt
        have HRR := HR2 U hul
        clear hlt HR2 hs4
        go_wp2_with (first
          | (go_at_call 84; refine (HWD.out _).mono ?_; rintro e w3 ⟨rfl, hk⟩; have HM4 := Lib.hid (HM.out.on hk); clear hk)
          | (go_at_call 51; refine (HRR.out _).mono ?_; rintro e w5 ⟨a5, c5, b5, rfl, ho, hk⟩; have HM5 := Lib.hid (HM4.out.on hk); have HR5 := Lib.hid (SlAt.ofOwn ho); clear ho hk)
          | (at_builtin; refine wpList_mineI rfl (.tmp 40) (.tmp 41) rfl w _ _ rfl HM5.out _ _ rfl (by have := HR5.out.src (P := Tryd.prog) Tryd.underlying26 (ints_one _); rw [ints_length, bitsN_length] at this; rw [ints_length, bitsN_length]; exact this) (by simp; omega) ?_; intro v6 w6 hm6; have HM6 := Lib.hid hm6; clear hm6))
        go_ret
        refine ⟨_, rfl, ?_⟩
        have := HM6.out
        rw [HQ.out, ints_append]
        exact this
end Go.Proofs.YtjpnfadmblmjbaaDoor
/- package limnographref06: Row. -/
namespace Go.Proofs.YtjpnfadmblmjbaaDoor
open Go.RowKit
attribute [local go_sem ↓] Go.wp_at_zero Go.wp_at_succ

theorem step_mineI {ops : Array Oper} {o : Oper} {a : Act} {K : Act → World → Prop} {Q : Exit → Act → World → Prop} {E : Prop} {w : World} (hgd : o.guard = none) (s x : Operand)
    (ho : o.op = .call { callee := .builtin .append, args := #[s, x], argTypes := #[26, 26] })
    (W : World) (v : Value) (xs : List Value) (hv : a.eval s = v) (hm : Mine W w 3 v xs)
    (y : Value) (news : List Value) (hy : a.eval x = y) (hs : Src Tryd.prog 1 26 y news.length news w)
    (hl : xs.length + news.length ≤ 1000000000000)
    (h : ∀ v' w', Mine W w' 3 v' (xs ++ news) → K (a.put o.dst v') w') :
    if Region.wanted o (yielded ops a.tmps) = true then Oper.wp Tryd.prog o a w K Q else E := by
  obtain ⟨iI, hiI, hzI0, hzI1, hzI2⟩ := info_parts Tryd.infoInt
  refine step_append_src w hgd s x 26 26 ho W.heap.size 3 iI (.int .i64 0) 1 8 Tryd.underlying26 hiI hzI0 hzI1 hzI2 rfl v xs.length xs hv hm.own y news.length news hy hs (by unfold maxLen; omega) (by omega) hm.kept.size ?_
  intro v' w' hown hg _ _
  refine h v' w' ⟨by rw [List.length_append]; exact hown, hm.kept.grown hg (fun k e hlt => ?_)⟩
  have := (ownsRow_lt hm.own e).2; omega

/-- The last one of a row's first numbers, and the step to it. -/
def lastA (l : List Int) (i : Nat) : Int := if i = 0 then 0 else l.getD (i - 1) 0
def stepA (l : List Int) (i : Nat) : Int := if i < 2 then 0 else diffI (l.getD (i - 1) 0) (l.getD (i - 2) 0)
theorem lastA_succ (l : List Int) (i : Nat) : lastA l (i + 1) = l.getD i 0 := by unfold lastA; rw [if_neg (by omega)]; rfl
theorem stepA_succ (l : List Int) (i : Nat) : stepA l (i + 1) = stepOf i (lastA l i) (stepA l i) (l.getD i 0) := by
  unfold stepOf
  by_cases h : i = 0
  · subst h; rfl
  · rw [if_pos (by omega)]
    unfold stepA lastA
    rw [if_neg (by omega), if_neg h]; rfl
/-- The bits of a row's first numbers. -/
def rowB (l : List Int) : Nat → List Bool
  | 0 => []
  | i + 1 => rowB l i ++ nextB i (lastA l i) (stepA l i) (l.getD i 0)
theorem smallB_length (v : Nat) : (smallB v).length ≤ 66 := by
  unfold smallB
  have h1 := classN_le v
  have hcc : classN v = 0 ∨ classN v = 1 ∨ classN v = 2 ∨ classN v = 3 := by omega
  simp only [List.length_append, bitsN_length]
  rcases hcc with h | h | h | h <;> rw [h] <;> simp [sizeC]
theorem nextB_length (n last step v : Int) : (nextB n last step v).length ≤ 70 := by
  unfold nextB
  have h1 := smallB_length (zigN v)
  have h2 := smallB_length (zigN (diffI v last))
  have h3 := stepB_length (diffI (diffI v last) step)
  split
  · omega
  · split <;> omega
theorem rowB_length (l : List Int) (i : Nat) : (rowB l i).length ≤ 70 * i := by
  induction i with
  | zero => simp [rowB]
  | succ i ih =>
    have := nextB_length i (lastA l i) (stepA l i) (l.getD i 0)
    simp only [rowB, List.length_append]; omega

set_option maxHeartbeats 2000000 in
set_option maxRecDepth 100000 in
theorem refRow6_any (v : Value) (l : List Int) (w : World) (hv : SlAt w v (vals l)) (hl : l.length ≤ 1000000) (hb : ∀ x ∈ l, I64 x) :
    Calls Tryd.prog 30 #[v] w fun e w' => ∃ vs, e = .returned vs ∧ Mine w w' 3 vs (ints (rowB l l.length)) := by
  have hlen := vals_length l
  have hv0 := Lib.hid hv
  obtain ⟨ao, c, hval, _, _⟩ := hv.val
  rw [hlen] at hval
  subst hval
  have hst : Mine w w 3 (.slice none 0 0) (ints (rowB l 0)) := Mine.nil _ _
  have HST := Lib.hid hst
  have HBL := Lib.hid (rowB_length l)
  clear hv hlen hst
  go_enter Tryd.func30, Tryd.ntmps30
  go_wp2
  go_loopg [3, 4] l.length (fun g s3 s4 wr => ∃ i : Nat, i ≤ l.length ∧ g = l.length - i ∧ s4 = .int .i64 i ∧ Mine w wr 3 s3 (ints (rowB l i)))
  case atStart => exact ⟨0, Nat.zero_le _, rfl, rfl, HST.out⟩
  case round =>
    obtain ⟨i, hil, rfl, rfl, hmine⟩ := hrel
    have HM := Lib.hid hmine
    have hb9 := HBL.out i
    clear hmine
    by_cases hd : i < l.length
    · have HD := Lib.hid hd
      have hdi : (i : Int) < (l.length : Int) := by omega
      have hsl := hv0.out.kept HM.out.kept (fun _ _ x => x)
      have HN : Hid (rowB l (i + 1) = rowB l i ++ nextB i (lastA l i) (stepA l i) (l.getD i 0)) := Lib.hid rfl
      by_cases h0 : i = 0
      · subst h0
        obtain ⟨g, off, rfl, hcell⟩ := hsl.elem (vals_get hd)
        have hx := getD_I64 hb 0
        obtain ⟨x, hxe⟩ : ∃ x, x = l.getD 0 0 := ⟨_, rfl⟩
        rw [← hxe] at hcell hx HN
        rw [Nat.add_zero] at hcell
        obtain ⟨hz1, hz2⟩ := zigN_eq x hx.1 hx.2
        have HZ := Lib.hid (refZig_any x hx.1 hx.2)
        rw [hz1] at HZ
        have HS := Lib.hid (small_any (zigN x) hz2)
        have HN2 := Lib.hid (show rowB l (0 + 1) = rowB l 0 ++ smallB (zigN x) from by rw [HN.out]; unfold nextB; rw [if_pos (by omega)])
        have hlS := smallB_length (zigN x)
        obtain ⟨Z, hZ⟩ : ∃ Z, Z = zigN x := ⟨_, rfl⟩
        rw [← hZ] at HZ HS HN2 hlS
        clear hsl hxe hx hz1 hz2 hZ hd HN
        go_wp2_with (first
          | (go_at_call 15; refine (HZ.out _).mono ?_; rintro e w' ⟨rfl, rfl⟩)
          | (go_at_call 14; refine (HS.out _).mono ?_; rintro e w2 ⟨vs, rfl, ho, hk⟩; have HM2 := Lib.hid (HM.out.on hk); have HR2 := Lib.hid (SlAt.ofOwn ho); clear ho hk)
          | (at_builtin; refine wpList_mineI rfl (.tmp 38) (.tmp 43) rfl w _ _ rfl HM2.out _ _ rfl (HR2.out.src (P := Tryd.prog) Tryd.underlying26 (ints_one _)) (by simp; omega) ?_; intro v6 w6 hm6; have HM6 := Lib.hid hm6; clear hm6))
        go_roundg (l.length - (0 + 1))
        case measure => have := HD.out; omega
        case rel => exact ⟨0 + 1, by have := HD.out; omega, rfl, rfl, by rw [HN2.out, ints_append]; exact HM6.out⟩
      · by_cases h1 : i = 1
        · subst h1
          obtain ⟨g, off, rfl, hcell0⟩ := hsl.elem (vals_get (j := 0) (by omega))
          have hw0 : SlAt w (.slice (some ⟨g, off, none⟩) l.length c) (vals l) := hv0.out
          obtain ⟨_, _, e', hcw0⟩ := hw0.elem (vals_get (j := 0) (by omega))
          injection e' with e'; injection e' with e1 e2; subst e1; subst e2
          obtain ⟨_, _, e', hcw1⟩ := hw0.elem (vals_get (j := 1) (by omega))
          injection e' with e'; injection e' with e1 e2; subst e1; subst e2
          obtain ⟨g', off', e', hcell⟩ := hsl.elem (vals_get hd)
          injection e' with e'; injection e' with e1 e2; subst e1; subst e2
          have hx := getD_I64 hb 1
          obtain ⟨x, hxe⟩ : ∃ x, x = l.getD 1 0 := ⟨_, rfl⟩
          obtain ⟨y, hye⟩ : ∃ y, y = l.getD 0 0 := ⟨_, rfl⟩
          rw [← hxe] at hcell hx HN
          rw [← hye, Nat.add_zero] at hcell0 hcw0
          rw [← hxe] at hcw1
          have HC : Hid (∀ w6, Kept (fun _ => False) w w6 → w6.cell? ⟨g, off, none⟩ = some (.int .i64 y) ∧ w6.cell? ⟨g, off + 1, none⟩ = some (.int .i64 x)) := Lib.hid fun w6 hk => ⟨hk.cell hcw0 (fun x => x), hk.cell hcw1 (fun x => x)⟩
          clear hcw0 hcw1 hw0
          have hdr := diffI_range x y
          have ux := uN_u64 x
          have uy := uN_u64 y
          have hd1 : IntKind.u64.wrap (((uN x : Nat) : Int) - ((uN y : Nat) : Int)) = ((uN (diffI x y) : Nat) : Int) := by
            rw [← ux, ← uy, ← uN_u64, IntKind.wrap_u64, IntKind.wrap_u64, IntKind.wrap_u64, IntKind.wrap_u64]; unfold diffI wrap64; omega
          have hd2 : IntKind.i64.wrap ((uN (diffI x y) : Nat) : Int) = diffI x y := by rw [IntWalk.i64_left]; exact uN_i64 _ hdr.1 hdr.2
          have hN1 : rowB l (1 + 1) = rowB l 1 ++ smallB (zigN (diffI x y)) := by
            rw [HN.out]; unfold nextB; rw [if_neg (by omega), if_pos (by omega)]
            have : lastA l 1 = y := by unfold lastA; rw [if_neg (by omega), hye]
            rw [this]
          have HN2 := Lib.hid hN1
          obtain ⟨D, hD⟩ : ∃ D, D = diffI x y := ⟨_, rfl⟩
          rw [← hD] at hd1 hd2 HN2 hdr
          obtain ⟨UX, hUX⟩ : ∃ UX, UX = uN x := ⟨_, rfl⟩
          obtain ⟨UY, hUY⟩ : ∃ UY, UY = uN y := ⟨_, rfl⟩
          obtain ⟨UD, hUD⟩ : ∃ UD, UD = uN D := ⟨_, rfl⟩
          rw [← hUX] at ux hd1
          rw [← hUY] at uy hd1
          rw [← hUD] at hd1 hd2
          obtain ⟨hz1, hz2⟩ := zigN_eq D hdr.1 hdr.2
          have HZ := Lib.hid (refZig_any D hdr.1 hdr.2)
          rw [hz1] at HZ
          have HS := Lib.hid (small_any (zigN D) hz2)
          have hlS := smallB_length (zigN D)
          obtain ⟨Z, hZ⟩ : ∃ Z, Z = zigN D := ⟨_, rfl⟩
          rw [← hZ] at HZ HS HN2 hlS
          have HMD := Lib.hid (HM.out.on ((Kept.refl _ wr).drew))
          have l0 : (0 : Int) < (l.length : Int) := by omega
          have l0n : 0 < l.length := by omega
          clear hsl hxe hye hx hz1 hz2 hZ hd HN hN1 hUX hUY hUD hD hdr
          go_wp2
          go_region_held3 (fun w' => w'.cell? ⟨g, off, none⟩ = some (.int .i64 y) ∧ w'.cell? ⟨g, off + 1, none⟩ = some (.int .i64 x)) (first | exact ⟨hcell0, hcell⟩ | exact HC6.out | go_keep)
            (first
              | (go_at_call 15; refine (HZ.out _).mono ?_; rintro e w' ⟨rfl, rfl⟩)
              | (go_at_call 14; refine (HS.out _).mono ?_; rintro e w2 ⟨vs, rfl, ho, hk⟩; have hcell0 := hk.cell (show wr.drew.cell? _ = _ from hcell0) (fun x => x); have hcell := hk.cell (show wr.drew.cell? _ = _ from hcell) (fun x => x); have HM2 := Lib.hid (HMD.out.on hk); have HR2 := Lib.hid (SlAt.ofOwn ho); clear ho hk)
              | (refine step_mineI (by rfl) (.tmp 47) (.tmp 59) (by rfl) w _ _ (by rfl) HM2.out _ _ (by rfl) (HR2.out.src (P := Tryd.prog) Tryd.underlying26 (ints_one _)) (by simp; omega) ?_; intro v6 w6 hm6; have HM6 := Lib.hid hm6; have HC6 := Lib.hid (HC.out w6 hm6.kept); clear hm6 hcell0 hcell)
              | fail)
          go_wp2
          go_roundg (l.length - (1 + 1))
          case measure => have := HD.out; omega
          case rel => exact ⟨1 + 1, by have := HD.out; omega, rfl, rfl, by rw [HN2.out, ints_append]; exact HM6.out⟩
        · obtain ⟨j1, hj1⟩ : ∃ j1, j1 = i - 1 := ⟨_, rfl⟩
          obtain ⟨j2, hj2⟩ : ∃ j2, j2 = i - 2 := ⟨_, rfl⟩
          obtain ⟨g, off, rfl, hcell2⟩ := hsl.elem (vals_get (j := j2) (by omega))
          have hw0 : SlAt w (.slice (some ⟨g, off, none⟩) l.length c) (vals l) := hv0.out
          obtain ⟨_, _, e', hcw0⟩ := hw0.elem (vals_get hd)
          injection e' with e'; injection e' with e1 e2; subst e1; subst e2
          obtain ⟨_, _, e', hcw1⟩ := hw0.elem (vals_get (j := j1) (by omega))
          injection e' with e'; injection e' with e1 e2; subst e1; subst e2
          obtain ⟨_, _, e', hcw2⟩ := hw0.elem (vals_get (j := j2) (by omega))
          injection e' with e'; injection e' with e1 e2; subst e1; subst e2
          obtain ⟨g', off', e', hcell1⟩ := hsl.elem (vals_get (j := j1) (by omega))
          injection e' with e'; injection e' with e1 e2; subst e1; subst e2
          obtain ⟨g', off', e', hcell⟩ := hsl.elem (vals_get hd)
          injection e' with e'; injection e' with e1 e2; subst e1; subst e2
          obtain ⟨x, hxe⟩ : ∃ x, x = l.getD i 0 := ⟨_, rfl⟩
          obtain ⟨y, hye⟩ : ∃ y, y = l.getD j1 0 := ⟨_, rfl⟩
          obtain ⟨z, hze⟩ : ∃ z, z = l.getD j2 0 := ⟨_, rfl⟩
          rw [← hxe] at hcell HN
          rw [← hye] at hcell1
          rw [← hze] at hcell2 hcw2
          rw [← hye] at hcw1
          rw [← hxe] at hcw0
          have HC : Hid (∀ w6, Kept (fun _ => False) w w6 → w6.cell? ⟨g, off + i, none⟩ = some (.int .i64 x) ∧ w6.cell? ⟨g, off + j1, none⟩ = some (.int .i64 y) ∧ w6.cell? ⟨g, off + j2, none⟩ = some (.int .i64 z)) := Lib.hid fun w6 hk => ⟨hk.cell hcw0 (fun x => x), hk.cell hcw1 (fun x => x), hk.cell hcw2 (fun x => x)⟩
          clear hcw0 hcw1 hcw2 hw0
          obtain ⟨D, hD⟩ : ∃ D, D = diffI (diffI x y) (diffI y z) := ⟨_, rfl⟩
          have hdr := diffI_range (diffI x y) (diffI y z)
          have ux := uN_u64 x
          have uy := uN_u64 y
          have uz := uN_u64 z
          have ud := uN_u64 D
          have hdd : IntKind.i64.wrap ((uN D : Nat) : Int) = D := by rw [IntWalk.i64_left]; exact uN_i64 _ (by rw [hD]; exact hdr.1) (by rw [hD]; exact hdr.2)
          obtain ⟨UX, hUX⟩ : ∃ UX, UX = uN x := ⟨_, rfl⟩
          obtain ⟨UY, hUY⟩ : ∃ UY, UY = uN y := ⟨_, rfl⟩
          obtain ⟨UZ, hUZ⟩ : ∃ UZ, UZ = uN z := ⟨_, rfl⟩
          obtain ⟨UD, hUD⟩ : ∃ UD, UD = uN D := ⟨_, rfl⟩
          rw [← hUX] at ux
          rw [← hUY] at uy
          rw [← hUZ] at uz
          rw [← hUD] at ud hdd
          obtain ⟨A1, hA1⟩ : ∃ A1 : Nat, (A1 : Int) = (2 * (UY : Int)) % 18446744073709551616 := ⟨((2 * (UY : Int)) % 18446744073709551616).toNat, by omega⟩
          obtain ⟨A2, hA2⟩ : ∃ A2 : Nat, (A2 : Int) = ((UX : Int) - (A1 : Int)) % 18446744073709551616 := ⟨(((UX : Int) - (A1 : Int)) % 18446744073709551616).toNat, by omega⟩
          have w1 : IntKind.u64.wrap (2 * (UY : Int)) = (A1 : Int) := by rw [IntKind.wrap_u64]; omega
          have w2 : IntKind.u64.wrap ((UX : Int) - (A1 : Int)) = (A2 : Int) := by rw [IntKind.wrap_u64]; omega
          have w3 : IntKind.u64.wrap ((A2 : Int) + (UZ : Int)) = (UD : Int) := by
            rw [← ud, IntKind.wrap_u64, IntKind.wrap_u64, hD]
            rw [IntKind.wrap_u64] at ux uy uz
            unfold diffI wrap64
            omega
          have hN1 : rowB l (i + 1) = rowB l i ++ stepB D := by
            rw [HN.out]; unfold nextB; rw [if_neg (by omega), if_neg (by omega)]
            have e1 : lastA l i = y := by unfold lastA; rw [if_neg (by omega), hye, hj1]
            have e2 : stepA l i = diffI y z := by unfold stepA; rw [if_neg (by omega), hye, hze, hj1, hj2]
            rw [e1, e2, hD]
          have HN2 := Lib.hid hN1
          have HS := Lib.hid (refStep_any D (by rw [hD]; exact hdr.1) (by rw [hD]; exact hdr.2))
          have hlS := stepB_length D
          have q0 : ((i : Int) == 0) = false := by simp; omega
          have q1 : ((i : Int) == 1) = false := by simp; omega
          have k1 : IntKind.i64.wrap ((i : Int) - 1) = (j1 : Int) := by rw [IntWalk.i64_in _ ⟨by omega, by omega⟩]; omega
          have k2 : IntKind.i64.wrap ((i : Int) - 2) = (j2 : Int) := by rw [IntWalk.i64_in _ ⟨by omega, by omega⟩]; omega
          have i0 : (0 : Int) ≤ (i : Int) := by omega
          have j10 : (0 : Int) ≤ (j1 : Int) := by omega
          have j1l : (j1 : Int) < (l.length : Int) := by omega
          have j20 : (0 : Int) ≤ (j2 : Int) := by omega
          have j2l : (j2 : Int) < (l.length : Int) := by omega
          have HMD := Lib.hid (HM.out.on ((Kept.refl _ wr).drew))
          have hb8 : i ≤ 1000000 := by omega
          clear hsl hxe hye hze hd HN hN1 hUX hUY hUZ hUD hD hdr hA1 hA2 hj1 hj2 h0 h1 ud
          go_wp2
          go_region_held3 (fun w' => w'.cell? ⟨g, off + i, none⟩ = some (.int .i64 x) ∧ w'.cell? ⟨g, off + j1, none⟩ = some (.int .i64 y) ∧ w'.cell? ⟨g, off + j2, none⟩ = some (.int .i64 z)) (first | exact ⟨hcell, hcell1, hcell2⟩ | exact HC6.out | go_keep)
            (first
              | (go_at_call 60; refine (HS.out _).mono ?_; rintro e w2 ⟨vs, rfl, ho⟩; have hcell := ho.kept.cell (show wr.drew.cell? _ = _ from hcell) (fun x => x); have hcell1 := ho.kept.cell (show wr.drew.cell? _ = _ from hcell1) (fun x => x); have hcell2 := ho.kept.cell (show wr.drew.cell? _ = _ from hcell2) (fun x => x); have HM2 := Lib.hid (HMD.out.on ho.kept); have HR2 := Lib.hid ho.at_; clear ho)
              | (refine step_mineI (by rfl) (.tmp 12) (.tmp 34) (by rfl) w _ _ (by rfl) HM2.out _ _ (by rfl) (HR2.out.src (P := Tryd.prog) Tryd.underlying26 (ints_one _)) (by simp; omega) ?_; intro v6 w6 hm6; have HM6 := Lib.hid hm6; have HC6 := Lib.hid (HC.out w6 hm6.kept); clear hm6 hcell hcell1 hcell2)
              | fail)
          go_wp2
          go_roundg (l.length - (i + 1))
          case measure => have := HD.out; omega
          case rel => exact ⟨i + 1, by have := HD.out; omega, rfl, by go_num, by rw [HN2.out, ints_append]; exact HM6.out⟩
    · obtain rfl : i = l.length := by omega
      clear hd
      go_wp2
      go_ret
      exact ⟨_, rfl, HM.out⟩
end Go.Proofs.YtjpnfadmblmjbaaDoor
/- The document's Number; a copy of a reader; package vary: Get, GetInt. -/
namespace Go.Proofs.YtjpnfadmblmjbaaDoor
open Go.RowKit
attribute [local go_sem ↓] Go.wp_at_zero Go.wp_at_succ

/-- Bytes as a text. -/
def strN (l : List Nat) : ByteArray := strOfNums (l.map fun (n : Nat) => (n : Int))
theorem run_strN {P : Program} {w : World} {v : Value} {l : List Nat} (h : SlAt w v (bys l)) (src e dst : TypeId) (hs : P.underlying src = some (.slice e)) (he : P.underlying e = some (.int .u8)) (hd : P.underlying dst = some .string) :
    (convert src dst v).run P w = .ok (.string (strN l)) w := by
  rcases Nat.eq_zero_or_pos l.length with h0 | h0
  · obtain rfl : l = [] := List.eq_nil_of_length_eq_zero h0
    obtain ⟨ao, c, rfl, hn, hc⟩ := h.val
    cases ao with
    | none => exact run_convert_bytes_nil w src e hs he 0 c dst hd
    | some a =>
      rw [run_convert_bytes_string w src dst e _ _ c hs he hd]
      simp [Conv.bytesToString, loadCells, loadCellsFrom]
      rfl
  · obtain ⟨g, off, c, rfl, hc⟩ := h.addr (by rw [bys_length]; exact h0)
    rw [bys_length]
    have := run_convert_bytes_arg (P := P) w src e hs he g off l.length c (l.map fun (n : Nat) => (n : Int)) (by simp) (fun i hi => by
      rw [hc i _ (bys_get (by simpa using hi))]
      simp [List.getD_eq_getElem?_getD, List.getElem?_eq_getElem hi]) dst hd
    exact this

set_option maxHeartbeats 1000000 in
theorem refNumber_any (v : Value) (bs : List Bool) (w : World) (hv : SlAt w v (ints bs)) (hl : bs.length ≤ 64) :
    Calls Tryd.prog 55 #[v] w fun e w' => e = .returned (.int .u64 ((numB bs : Nat) : Int)) ∧ w = w' := by
  have hlen := ints_length bs
  have hv0 := Lib.hid hv
  obtain ⟨ao, c, hval, _, _⟩ := hv.val
  rw [hlen] at hval
  subst hval
  clear hv hlen
  go_enter Tryd.func55, Tryd.ntmps55
  go_wp2
  go_loopg [3, 4] bs.length (fun g s3 s4 wr => ∃ i : Nat, i ≤ bs.length ∧ g = bs.length - i ∧ s4 = .int .i64 i ∧ s3 = .int .u64 ((numB (bs.take i) : Nat) : Int) ∧ w = wr)
  case atStart => exact ⟨0, Nat.zero_le _, rfl, rfl, rfl, rfl⟩
  case round =>
    obtain ⟨i, hil, rfl, rfl, rfl, rfl⟩ := hrel
    by_cases hd : i < bs.length
    · obtain ⟨g, off, c', e, hc⟩ := hv0.out.addr (by rw [ints_length]; omega)
      rw [ints_length] at e
      injection e with e1 e2 e3
      subst e1
      have hcell := hc i _ (ints_get hd)
      obtain ⟨y, hy⟩ : ∃ y : Nat, y = (bs.getD i false).toNat := ⟨_, rfl⟩
      rw [← hy] at hcell
      have hy1 : y ≤ 1 := by rw [hy]; exact Bool.toNat_le _
      obtain ⟨V, hV⟩ : ∃ V, V = numB (bs.take i) := ⟨_, rfl⟩
      have hVl : V < 2 ^ 63 := by
        have h1 := numB_lt (bs.take i)
        rw [← hV, List.length_take, Nat.min_eq_left hil] at h1
        exact Nat.lt_of_lt_of_le h1 (Nat.pow_le_pow_right (by omega) (by omega))
      have h63 : (2 : Nat) ^ 63 = 9223372036854775808 := by decide
      obtain ⟨X, hX⟩ : ∃ X, X = 2 * V + y := ⟨_, rfl⟩
      have hXn : X = numB (bs.take (i + 1)) := by rw [take_snocB bs i hd, numB_snoc, hX, hV, hy]
      have HX := Lib.hid hXn
      have x1 : IntKind.u64.wrap (2 * (V : Int)) = 2 * (V : Int) := by rw [IntKind.wrap_u64]; omega
      have x2 : 2 * (V : Int) + (y : Int) = (X : Int) := by omega
      have x3 : IntKind.u64.wrap (X : Int) = (X : Int) := by rw [IntKind.wrap_u64]; omega
      have x4 : IntKind.u64.wrap (y : Int) = (y : Int) := by rw [IntKind.wrap_u64]; omega
      have hdi : (i : Int) < (bs.length : Int) := by omega
      have HD := Lib.hid hd
      rw [← hV]
      clear hc e2 e3 hy hV hX hXn hd h63 hVl
      go_wp2
      go_roundg (bs.length - (i + 1))
      case measure => have := HD.out; omega
      case rel => exact ⟨i + 1, by have := HD.out; omega, rfl, by go_num, by rw [HX.out], rfl⟩
    · obtain rfl : i = bs.length := by omega
      go_wp2
      go_ret
      rw [List.take_length]
      exact ⟨rfl, rfl⟩


/-- What stands first among bits: a small form's number, its length, and an error. -/
def gotSmall (l : List Bool) : Nat × Nat × Nat :=
  if l.length < 2 then (0, 0, 2)
  else if l.length - 2 < sizeC.getD (numB (l.take 2)) 0 then (0, 0, 2)
  else if classN (numB ((l.drop 2).take (sizeC.getD (numB (l.take 2)) 0))) ≠ numB (l.take 2) then (0, 0, 3)
  else (numB ((l.drop 2).take (sizeC.getD (numB (l.take 2)) 0)), 2 + sizeC.getD (numB (l.take 2)) 0, 0)
theorem gotSmall_cases (l : List Bool) :
    (l.length < 2 ∧ gotSmall l = (0, 0, 2)) ∨ (2 ≤ l.length ∧ ∃ c S, c = numB (l.take 2) ∧ c < 4 ∧ S = sizeC.getD c 0 ∧ S ≤ 64 ∧
      ((l.length - 2 < S ∧ gotSmall l = (0, 0, 2)) ∨ (S ≤ l.length - 2 ∧ ∃ x, x = numB ((l.drop 2).take S) ∧ x < 18446744073709551616 ∧ ((classN x ≠ c ∧ gotSmall l = (0, 0, 3)) ∨ (classN x = c ∧ gotSmall l = (x, 2 + S, 0)))))) := by
  by_cases h : l.length < 2
  · exact .inl ⟨h, by unfold gotSmall; rw [if_pos h]⟩
  · refine .inr ⟨by omega, _, _, rfl, ?_, rfl, ?_, ?_⟩
    · have := numB_lt (l.take 2)
      rw [List.length_take, Nat.min_eq_left (by omega)] at this; exact this
    · have h1 : numB (l.take 2) < 4 := by
        have := numB_lt (l.take 2)
        rw [List.length_take, Nat.min_eq_left (by omega)] at this; exact this
      generalize numB (l.take 2) = c at h1
      have : c = 0 ∨ c = 1 ∨ c = 2 ∨ c = 3 := by omega
      rcases this with rfl | rfl | rfl | rfl <;> simp [sizeC]
    · have h1 : numB (l.take 2) < 4 := by
        have := numB_lt (l.take 2)
        rw [List.length_take, Nat.min_eq_left (by omega)] at this; exact this
      have h2 : sizeC.getD (numB (l.take 2)) 0 ≤ 64 := by
        generalize numB (l.take 2) = c at h1
        have : c = 0 ∨ c = 1 ∨ c = 2 ∨ c = 3 := by omega
        rcases this with rfl | rfl | rfl | rfl <;> simp [sizeC]
      by_cases h3 : l.length - 2 < sizeC.getD (numB (l.take 2)) 0
      · exact .inl ⟨h3, by unfold gotSmall; rw [if_neg h, if_pos h3]⟩
      · refine .inr ⟨by omega, _, rfl, ?_, ?_⟩
        · have := numB_lt ((l.drop 2).take (sizeC.getD (numB (l.take 2)) 0))
          refine Nat.lt_of_lt_of_le this ?_
          have e : (18446744073709551616 : Nat) = 2 ^ 64 := by decide
          rw [e]
          exact Nat.pow_le_pow_right (by omega) (by rw [List.length_take]; omega)
        · by_cases h4 : classN (numB ((l.drop 2).take (sizeC.getD (numB (l.take 2)) 0))) = numB (l.take 2)
          · exact .inr ⟨h4, by unfold gotSmall; rw [if_neg h, if_neg h3, if_neg (fun e => e h4)]⟩
          · exact .inl ⟨h4, by unfold gotSmall; rw [if_neg h, if_neg h3, if_pos h4]⟩
theorem gotSmall_le (l : List Bool) : (gotSmall l).2.1 ≤ l.length := by
  rcases gotSmall_cases l with ⟨_, e⟩ | ⟨_, c, S, _, _, _, _, ⟨_, e⟩ | ⟨_, x, _, _, ⟨_, e⟩ | ⟨_, e⟩⟩⟩ <;> rw [e] <;> simp <;> omega

/-- A copy of a reader in a new block, and a reader that is set to what the copy says. -/
theorem BrAt.copy {w : World} {B p : Nat} {v : Value} {bs : List Bool} {t : Nat} (h : BrAt w B p v bs t) (hB : B ≤ w.heap.size) : BrAt (w.alloc (.cells #[v, .int .i64 bs.length, .int .i64 t] 88)) B w.heap.size v bs t :=
  ⟨hB, heap_alloc_new w _, ((Kept.refl (fun _ => False) w).alloc _).owns h.owns (fun _ _ x => x), fun e => by have := (ownsRow_lt h.owns e).1; omega, h.taken⟩
theorem BrAt.put3 {w : World} {B p : Nat} {v : Value} {bs : List Bool} {t t' : Nat} (h : BrAt w B p v bs t) (ht : t' ≤ bs.length) :
    BrAt (((w.setCell ⟨p, 0, none⟩ v).setCell ⟨p, 1, none⟩ (.int .i64 bs.length)).setCell ⟨p, 2, none⟩ (.int .i64 t')) B p v bs t' ∧ Kept (fun k => k = p) w (((w.setCell ⟨p, 0, none⟩ v).setCell ⟨p, 1, none⟩ (.int .i64 bs.length)).setCell ⟨p, 2, none⟩ (.int .i64 t')) := by
  have K := (((Kept.refl (fun k => k = p) w).setCell (p := ⟨p, 0, none⟩) (fun _ => rfl) v).setCell (p := ⟨p, 1, none⟩) (fun _ => rfl) (.int .i64 bs.length)).setCell (p := ⟨p, 2, none⟩) (fun _ => rfl) (.int .i64 t')
  refine ⟨⟨h.base, ?_, K.owns h.owns (fun k e x => h.apart (by rw [e, x])), h.apart, ht⟩, K⟩
  have e := h.box
  simp [World.setCell, Array.getElem?_modify, e]

theorem ClassTab.keptS {S : Nat → Prop} {w w' : World} (h : ClassTab w) (hk : Kept S w w') (hn : ¬ S 0) : ClassTab w' := fun j hj => hk.cell (h j hj) hn
theorem WayTab.keptS {S : Nat → Prop} {w w' : World} (h : WayTab w) (hk : Kept S w w') (hn : ¬ S 1) : WayTab w' := fun j hj => hk.cell (h j hj) hn
/-- What taking something leaves: the number, how much was taken, the error. -/
def GotAt (k : IntKind) (w : World) (B p : Nat) (v : Value) (bs : List Bool) (t : Nat) (V : Int) (N E : Nat) (e : Ending) (w' : World) : Prop :=
  e = .returned (.tuple #[.int k V, .int .i64 (E : Int)]) ∧ BrAt w' B p v bs (t + N) ∧ Kept (fun k => k = p) w w'
theorem Kept.new {q : Nat} {S : Nat → Prop} {a b c : World} (h : Kept S a b) (k : Kept (fun k => k = q) b c) (hq : a.heap.size ≤ q) : Kept S a c := h.step k (fun i hi e => by omega)

set_option maxHeartbeats 2000000 in
set_option maxRecDepth 100000 in
theorem varyGet_any (B p : Nat) (v : Value) (bs : List Bool) (t : Nat) (w : World) (HR : BrAt w B p v bs t) (hB : B ≤ w.heap.size) (hl : bs.length ≤ 100000000) (HT : ClassTab w) :
    Calls Tryd.prog 24 #[.pointer (some ⟨p, 0, none⟩)] w (GotAt .u64 w B p v bs t (gotSmall (bs.drop t)).1 (gotSmall (bs.drop t)).2.1 (gotSmall (bs.drop t)).2.2) := by
  have hpl := HR.lt
  obtain ⟨ao, cp, rfl⟩ := ownsRow_slice HR.owns
  have hc0 := HR.c0
  have hc1 := HR.c1
  have hc2 := HR.c2
  have hft := HR.taken
  have K0 : Kept (fun _ => False) w (w.alloc (.cells #[.slice ao (packB bs).length cp, .int .i64 bs.length, .int .i64 t] 88)) := (Kept.refl _ w).alloc _
  have HQ := HR.copy hB
  have hdl : (bs.drop t).length = bs.length - t := List.length_drop
  have hbase := HR.base
  have HRR := Lib.hid HR
  have HK0 := Lib.hid K0
  have HTT := Lib.hid HT
  have fin0 : ∀ w2, Kept (fun k => k = w.heap.size) (w.alloc (.cells #[.slice ao (packB bs).length cp, .int .i64 bs.length, .int .i64 t] 88)) w2 → Kept (fun _ => False) w w2 := fun w2 h => K0.new h (by omega)
  have FIN0 := Lib.hid fin0
  have finE : ∀ w2 E, Kept (fun _ => False) w w2 → GotAt .u64 w B p (.slice ao (packB bs).length cp) bs t 0 0 E (.returned (.tuple #[.int .u64 0, .int .i64 (E : Int)])) w2 := fun w2 E h => ⟨rfl, HR.keptF h, h.mono (fun _ _ x => x.elim)⟩
  have FINE := Lib.hid finE
  clear HR HT K0 fin0 finE
  have hTQ := HTT.out.kept HK0.out
  rcases gotSmall_cases (bs.drop t) with ⟨h2, e⟩ | ⟨h2, c, S, hc, hc4, hS, hS64, hrest⟩
  · rw [e]
    have HT1 := Lib.hid (btake_no B w.heap.size _ bs t 2 _ HQ (by omega) (.inr (.inr (by omega))))
    clear HQ e hdl h2 hTQ
    go_enter Tryd.func24, Tryd.ntmps24
    go_wp2_with (go_at_call 57; refine HT1.out.mono ?_; rintro e w1 ⟨rfl, _, hk⟩; have H1 := Lib.hid (FIN0.out _ hk); clear hk)
    go_ret2
    exact FINE.out _ 2 H1.out
  · have HT1 := btake_yes B w.heap.size _ bs t 2 _ HQ (by omega) (by omega) (by omega)
    rw [← hc] at HT1
    have HT1 := Lib.hid HT1
    have c0 : (0 : Int) ≤ (c : Int) := by omega
    have c4 : (c : Int) < 4 := by omega
    have hcw : IntKind.i64.wrap (c : Int) = (c : Int) := IntWalk.i64_in _ ⟨by omega, by omega⟩
    have hcell : ∀ w1, Kept (fun k => k = w.heap.size) (w.alloc (.cells #[.slice ao (packB bs).length cp, .int .i64 bs.length, .int .i64 t] 88)) w1 → w1.cell? ⟨0, c, none⟩ = some (.int .i64 (S : Int)) := fun w1 h => by
      rw [hS]; exact (hTQ.keptS h (by omega)) c hc4
    have HCELL := Lib.hid hcell
    rcases hrest with ⟨h3, e⟩ | ⟨h3, x, hx, hx64, hrest⟩
    · rw [e]
      clear hS hc
      have HT2 := fun w1 (h : BrAt w1 B w.heap.size (.slice ao (packB bs).length cp) bs (t + 2)) => btake_no B w.heap.size _ bs (t + 2) S w1 h (by omega) (.inr (.inr (by omega)))
      have HT2 := Lib.hid HT2
      clear HQ e hdl h2 hTQ hcell h3
      go_enter Tryd.func24, Tryd.ntmps24
      go_wp2_with (first
        | (go_at_call 57; refine (HT2.out w1 HQ1.out).mono ?_; rintro e w2 ⟨rfl, _, hk⟩; have H2 := Lib.hid (FIN0.out _ (H1.out.trans hk)); clear hk)
        | (go_at_call 57; refine HT1.out.mono ?_; rintro e w1 ⟨rfl, hq1, hk⟩; have hcel := HCELL.out _ hk; have H1 := Lib.hid hk; have HQ1 := Lib.hid hq1; clear hk hq1))
      go_ret2
      exact FINE.out _ 2 H2.out
    · obtain ⟨t2, ht2⟩ : ∃ t2, t2 = t + 2 + S := ⟨_, rfl⟩
      have HTE := Lib.hid (show t + (2 + S) = t2 by omega)
      have HT2 : ∀ w1, BrAt w1 B w.heap.size (.slice ao (packB bs).length cp) bs (t + 2) → Calls Tryd.prog 57 #[.pointer (some ⟨w.heap.size, 0, none⟩), .int .i64 S] w1 (Taken w1 B w.heap.size (.slice ao (packB bs).length cp) bs t2 x true) := fun w1 h => by
        have := btake_yes B w.heap.size _ bs (t + 2) S w1 h (by omega) hS64 (by omega)
        rw [List.drop_drop] at hx
        rw [← hx] at this; rw [ht2]; exact this
      have HT2 := Lib.hid HT2
      have HCLS := Lib.hid (class_any x hx64)
      rcases hrest with ⟨h4, e⟩ | ⟨h4, e⟩
      · rw [e]
        obtain ⟨C, hC⟩ : ∃ C, C = classN x := ⟨_, rfl⟩
        have hne : (((C : Nat) : Int) != (c : Int)) = true := by simp; omega
        rw [← hC] at HCLS
        clear HQ e hdl h2 hTQ hcell h3 h4 hS hc hx hC ht2
        go_enter Tryd.func24, Tryd.ntmps24
        go_wp2_with (first
          | (go_at_call 57; refine (HT2.out w1 HQ1.out).mono ?_; rintro e w2 ⟨rfl, _, hk⟩; have H2 := Lib.hid (H1.out.trans hk); clear hk)
          | (go_at_call 57; refine HT1.out.mono ?_; rintro e w1 ⟨rfl, hq1, hk⟩; have hcel := HCELL.out _ hk; have H1 := Lib.hid hk; have HQ1 := Lib.hid hq1; clear hk hq1)
          | (go_at_call 47; refine (HCLS.out _ (HTT.out.kept (FIN0.out _ H2.out))).mono ?_; rintro e w' ⟨rfl, rfl⟩))
        go_ret2
        exact FINE.out _ 3 (FIN0.out _ H2.out)
      · rw [e]
        obtain ⟨C, hC⟩ : ∃ C, C = classN x := ⟨_, rfl⟩
        have hne : (((C : Nat) : Int) != (c : Int)) = false := by simp; omega
        rw [← hC] at HCLS
        clear HQ e hdl h2 hTQ hcell h3 h4 hS hc hx hC ht2
        go_enter Tryd.func24, Tryd.ntmps24
        go_wp2_with (first
          | (go_at_call 57; refine (HT2.out w1 HQ1.out).mono ?_; rintro e w2 ⟨rfl, hq2, hk⟩; have r0 := hq2.c0; have r1 := hq2.c1; have r2 := hq2.c2; have H2 := Lib.hid (H1.out.trans hk); have hp2 := HRR.out.keptF (FIN0.out _ H2.out); have s0 := hp2.c0; have s1 := hp2.c1; have s2 := hp2.c2; have f0 := hp2.free 0; have f1 := hp2.free 1; have f2 := hp2.free 2; have HP3 := Lib.hid (hp2.put3 hq2.taken); clear hk hq2 hp2)
          | (go_at_call 57; refine HT1.out.mono ?_; rintro e w1 ⟨rfl, hq1, hk⟩; have hcel := HCELL.out _ hk; have H1 := Lib.hid hk; have HQ1 := Lib.hid hq1; clear hk hq1)
          | (go_at_call 47; refine (HCLS.out _ (HTT.out.kept (FIN0.out _ H2.out))).mono ?_; rintro e w' ⟨rfl, rfl⟩))
        go_ret2
        exact ⟨rfl, by rw [HTE.out]; exact HP3.out.1, ((FIN0.out _ H2.out).mono (fun _ _ x => x.elim)).trans HP3.out.2⟩
end Go.Proofs.YtjpnfadmblmjbaaDoor
/- package vary: GetInt, getWay. -/
namespace Go.Proofs.YtjpnfadmblmjbaaDoor
open Go.RowKit
attribute [local go_sem ↓] Go.wp_at_zero Go.wp_at_succ

theorem numB_u64 (l : List Bool) (S : Nat) (hS : S ≤ 64) : numB (l.take S) < 18446744073709551616 := by
  have := numB_lt (l.take S)
  refine Nat.lt_of_lt_of_le this ?_
  have e : (18446744073709551616 : Nat) = 2 ^ 64 := by decide
  rw [e]
  exact Nat.pow_le_pow_right (by omega) (by rw [List.length_take]; omega)

/-- How many bits 1 stand first, up to so many. -/
def onesK : Nat → List Bool → Nat
  | 0, _ => 0
  | _, [] => 0
  | n + 1, b :: l => if b then onesK n l + 1 else 0
theorem onesK_le (n : Nat) (l : List Bool) : onesK n l ≤ n ∧ onesK n l ≤ l.length := by
  induction n generalizing l with
  | zero => simp [onesK]
  | succ n ih =>
    cases l with
    | nil => simp [onesK]
    | cons b l =>
      have := ih l
      cases b <;> simp [onesK] <;> omega
theorem onesK_get (n : Nat) (l : List Bool) (m : Nat) (hm : m < onesK n l) : l.getD m false = true := by
  induction n generalizing l m with
  | zero => simp [onesK] at hm
  | succ n ih =>
    cases l with
    | nil => simp [onesK] at hm
    | cons b l =>
      cases b
      · simp [onesK] at hm
      · cases m with
        | zero => rfl
        | succ m =>
          have := ih l m (by simp [onesK] at hm; omega)
          simpa using this
theorem onesK_end (n : Nat) (l : List Bool) (h : onesK n l < n) : onesK n l = l.length ∨ (onesK n l < l.length ∧ l.getD (onesK n l) false = false) := by
  induction n generalizing l with
  | zero => omega
  | succ n ih =>
    cases l with
    | nil => left; simp [onesK]
    | cons b l =>
      cases b
      · right; simp [onesK]
      · have := ih l (by simp [onesK] at h; omega)
        simp only [onesK, if_true, List.length_cons]
        rcases this with h1 | ⟨h1, h2⟩
        · left; omega
        · right; exact ⟨by omega, by simpa using h2⟩

/-- What stands first among bits: a difference, its length, and an error. -/
def gotStep (l : List Bool) : Int × Nat × Nat :=
  if onesK 4 l < 4 ∧ onesK 4 l = l.length then (0, 0, 2)
  else if l.length - (if onesK 4 l < 4 then onesK 4 l + 1 else 4) < widthW.getD (onesK 4 l) 0 then (0, 0, 2)
  else if wayN (cutI (numB ((l.drop (if onesK 4 l < 4 then onesK 4 l + 1 else 4)).take (widthW.getD (onesK 4 l) 0))) (widthW.getD (onesK 4 l) 0)) ≠ onesK 4 l then (0, 0, 3)
  else (cutI (numB ((l.drop (if onesK 4 l < 4 then onesK 4 l + 1 else 4)).take (widthW.getD (onesK 4 l) 0))) (widthW.getD (onesK 4 l) 0), (if onesK 4 l < 4 then onesK 4 l + 1 else 4) + widthW.getD (onesK 4 l) 0, 0)
theorem gotStep_cases (l : List Bool) : ∃ K S, K = onesK 4 l ∧ K ≤ 4 ∧ S = widthW.getD K 0 ∧ (S = 0 ∨ S = 6 ∨ S = 10 ∨ S = 16 ∨ S = 64) ∧
    ((K < 4 ∧ l.length = K ∧ gotStep l = (0, 0, 2)) ∨
     (∃ A, (K < 4 ∧ A = K + 1 ∧ l.getD K false = false ∨ K = 4 ∧ A = 4) ∧ A ≤ l.length ∧
      ((l.length - A < S ∧ gotStep l = (0, 0, 2)) ∨ (S ≤ l.length - A ∧ ∃ x, x = numB ((l.drop A).take S) ∧ x < 18446744073709551616 ∧ ((wayN (cutI x S) ≠ K ∧ gotStep l = (0, 0, 3)) ∨ (wayN (cutI x S) = K ∧ gotStep l = (cutI x S, A + S, 0))))))) := by
  obtain ⟨hk4, hkl⟩ := onesK_le 4 l
  have hend := onesK_end 4 l
  have hS := width_cases (onesK 4 l) (by omega)
  refine ⟨_, _, rfl, hk4, rfl, hS, ?_⟩
  by_cases h1 : onesK 4 l < 4 ∧ onesK 4 l = l.length
  · exact .inl ⟨h1.1, h1.2.symm, by unfold gotStep; rw [if_pos h1]⟩
  · refine .inr ⟨if onesK 4 l < 4 then onesK 4 l + 1 else 4, ?_, ?_, ?_⟩
    · by_cases h2 : onesK 4 l < 4
      · rw [if_pos h2]
        rcases hend h2 with h3 | h3
        · exact absurd ⟨h2, h3⟩ h1
        · exact .inl ⟨h2, rfl, h3.2⟩
      · rw [if_neg h2]; exact .inr ⟨by omega, rfl⟩
    · by_cases h2 : onesK 4 l < 4
      · rw [if_pos h2]; omega
      · rw [if_neg h2]; omega
    · by_cases h3 : l.length - (if onesK 4 l < 4 then onesK 4 l + 1 else 4) < widthW.getD (onesK 4 l) 0
      · exact .inl ⟨h3, by unfold gotStep; rw [if_neg h1, if_pos h3]⟩
      · refine .inr ⟨by omega, _, rfl, numB_u64 _ _ (by omega), ?_⟩
        by_cases h4 : wayN (cutI (numB ((l.drop (if onesK 4 l < 4 then onesK 4 l + 1 else 4)).take (widthW.getD (onesK 4 l) 0))) (widthW.getD (onesK 4 l) 0)) = onesK 4 l
        · exact .inr ⟨h4, by unfold gotStep; rw [if_neg h1, if_neg h3, if_neg (fun e => e h4)]⟩
        · exact .inl ⟨h4, by unfold gotStep; rw [if_neg h1, if_neg h3, if_pos h4]⟩
theorem gotStep_le (l : List Bool) : (gotStep l).2.1 ≤ l.length := by
  obtain ⟨K, S, _, _, _, _, ⟨_, _, e⟩ | ⟨A, _, _, ⟨_, e⟩ | ⟨_, x, _, _, ⟨_, e⟩ | ⟨_, e⟩⟩⟩⟩ := gotStep_cases l <;> rw [e] <;> simp <;> omega
theorem cutI_I64 (x S : Nat) (hS : S = 0 ∨ S = 6 ∨ S = 10 ∨ S = 16 ∨ S = 64) : I64 (cutI x S) := by
  unfold cutI I64
  rcases hS with rfl | rfl | rfl | rfl | rfl <;> simp only [Nat.reducePow, Nat.reduceSub, Nat.reduceEqDiff, if_true, if_false] <;> (try split) <;> omega
theorem gotStep_I64 (l : List Bool) : I64 (gotStep l).1 := by
  obtain ⟨K, S, _, _, _, hS, ⟨_, _, e⟩ | ⟨A, _, _, ⟨_, e⟩ | ⟨_, x, _, _, ⟨_, e⟩ | ⟨_, e⟩⟩⟩⟩ := gotStep_cases l <;> rw [e]
  · exact ⟨by decide, by decide⟩
  · exact ⟨by decide, by decide⟩
  · exact ⟨by decide, by decide⟩
  · exact cutI_I64 x S hS

theorem take1 (l : List Bool) (t m : Nat) (hm : t + m < l.length) : (l.drop (t + m)).take 1 = [(l.drop t).getD m false] := by
  rw [List.drop_eq_getElem_cons hm, List.getD_eq_getElem?_getD, List.getElem?_drop, List.getElem?_eq_getElem hm]; rfl

set_option maxHeartbeats 4000000 in
set_option maxRecDepth 100000 in
theorem getWay_any (B p : Nat) (v : Value) (bs : List Bool) (t : Nat) (w : World) (HR : BrAt w B p v bs t) (hB : B ≤ w.heap.size) (hB1 : 1 < B) (hl : bs.length ≤ 100000000) (HT : WayTab w) :
    Calls Tryd.prog 85 #[.pointer (some ⟨p, 0, none⟩)] w (GotAt .i64 w B p v bs t (gotStep (bs.drop t)).1 (gotStep (bs.drop t)).2.1 (gotStep (bs.drop t)).2.2) := by
  have hpl := HR.lt
  obtain ⟨ao, cp, rfl⟩ := ownsRow_slice HR.owns
  have hc0 := HR.c0
  have hc1 := HR.c1
  have hc2 := HR.c2
  have hft := HR.taken
  obtain ⟨w0, hw0⟩ : ∃ w0, w0 = w.alloc (.cells #[.slice ao (packB bs).length cp, .int .i64 bs.length, .int .i64 t] 88) := ⟨_, rfl⟩
  have K0 : Kept (fun _ => False) w w0 := by rw [hw0]; exact (Kept.refl _ w).alloc _
  have HQ := HR.copy hB
  rw [← hw0] at HQ
  have hdl : (bs.drop t).length = bs.length - t := List.length_drop
  have HRR := Lib.hid HR
  have HTT := Lib.hid HT
  have FIN0 := Lib.hid fun w2 (h : Kept (fun k => k = w.heap.size) w0 w2) => K0.new h (Nat.le_refl _)
  have FINE := Lib.hid fun w2 (E : Nat) (h : Kept (fun k => k = w.heap.size) w0 w2) => show GotAt .i64 w B p (.slice ao (packB bs).length cp) bs t 0 0 E (.returned (.tuple #[.int .i64 0, .int .i64 (E : Int)])) w2 from ⟨rfl, HR.keptF (FIN0.out _ h), (FIN0.out _ h).mono (fun _ _ x => x.elim)⟩
  obtain ⟨K, S, hK, hK4, hS, hSc, hrest⟩ := gotStep_cases (bs.drop t)
  have hones := onesK_get 4 (bs.drop t)
  have hole := (onesK_le 4 (bs.drop t)).2
  rw [← hK] at hones hole
  have TAKE1 := Lib.hid fun w1 m (hm : m < K) (h : BrAt w1 B w.heap.size (.slice ao (packB bs).length cp) bs (t + m)) => show Calls Tryd.prog 57 #[.pointer (some ⟨w.heap.size, 0, none⟩), .int .i64 1] w1 (Taken w1 B w.heap.size (.slice ao (packB bs).length cp) bs (t + (m + 1)) 1 true) from by
    have := btake_yes B w.heap.size _ bs (t + m) 1 w1 h (by omega) (by omega) (by omega)
    rw [take1 bs t m (by omega), hones m hm] at this
    exact this
  have TAB : ∀ w1, Kept (fun k => k = w.heap.size) w0 w1 → w1.cell? ⟨1, K, none⟩ = some (.int .i64 (S : Int)) := fun w1 h => by
    rw [hS]; exact ((HT.kept K0).keptS h (by omega)) K (by omega)
  have TAB := Lib.hid TAB
  have k0 : (0 : Int) ≤ (K : Int) := by omega
  have k5 : (K : Int) < 5 := by omega
  clear HR HT hones
  rcases hrest with ⟨hK3, hlK, e⟩ | ⟨A, hA, hAl, hrest⟩
  · rw [e]
    have TAKEN := Lib.hid fun w1 (h : BrAt w1 B w.heap.size (.slice ao (packB bs).length cp) bs (t + K)) => btake_no B w.heap.size _ bs (t + K) 1 w1 h (by omega) (.inr (.inr (by omega)))
    have HQQ := Lib.hid HQ
    have HW0 := Lib.hid hw0
    clear HQ e hK hS hlK hole hdl
    go_enter Tryd.func85, Tryd.ntmps85
    go_wp2
    rw [← HW0.out]
    go_loopg [5, 6, 7] 4 (fun g s5 s6 s7 wr => ∃ m : Nat, m ≤ K ∧ g = 4 - m ∧ s5 = .int .i64 m ∧ BrAt wr B w.heap.size (.slice ao (packB bs).length cp) bs (t + m) ∧ Kept (fun k => k = w.heap.size) w0 wr)
    case atStart => exact ⟨0, Nat.zero_le _, rfl, rfl, HQQ.out, Kept.refl _ _⟩
    case round =>
      obtain ⟨m, hm, rfl, rfl, hq, hk⟩ := hrel
      have HK := Lib.hid hk
      have HM := Lib.hid hq
      clear hq hk hc0 hc1 hc2
      have m4 : (m : Int) < 4 := by omega
      by_cases hd : m < K
      · go_wp2_with (go_at_call 57; refine (TAKE1.out _ m hd HM.out).mono ?_; rintro e w1 ⟨rfl, hq1, hk⟩; have H1 := Lib.hid (HK.out.trans hk); have HQ1 := Lib.hid hq1; clear hk hq1)
        go_roundg (4 - (m + 1))
        case measure => omega
        case rel => exact ⟨m + 1, hd, rfl, by go_num, HQ1.out, H1.out⟩
      · obtain rfl : m = K := by omega
        go_wp2_with (go_at_call 57; refine (TAKEN.out _ HM.out).mono ?_; rintro e w1 ⟨rfl, hq1, hk⟩; have H1 := Lib.hid (HK.out.trans hk); clear hk hq1)
        go_ret2
        exact FINE.out _ 2 H1.out
  · rw [hdl] at hAl hrest
    rcases hrest with ⟨h3, e⟩ | ⟨h3, x, hx, hx64, hrest⟩
    · rw [e]
      have TAKES := Lib.hid fun w1 (h : BrAt w1 B w.heap.size (.slice ao (packB bs).length cp) bs (t + A)) => btake_no B w.heap.size _ bs (t + A) S w1 h (by omega) (.inr (.inr (by omega)))
      have HQQ := Lib.hid HQ
      have HW0 := Lib.hid hw0
      clear HQ e hdl hole hw0 hK hS
      go_enter Tryd.func85, Tryd.ntmps85
      go_wp2
      rw [← HW0.out]
      go_loopg [5, 6, 7] 4 (fun g s5 s6 s7 wr => ∃ m : Nat, m ≤ K ∧ g = 4 - m ∧ s5 = .int .i64 m ∧ BrAt wr B w.heap.size (.slice ao (packB bs).length cp) bs (t + m) ∧ Kept (fun k => k = w.heap.size) w0 wr)
      case atStart => exact ⟨0, Nat.zero_le _, rfl, rfl, HQQ.out, Kept.refl _ _⟩
      case round =>
        obtain ⟨m, hm, rfl, rfl, hq, hk⟩ := hrel
        have hcel0 := TAB.out _ hk
        have HK := Lib.hid hk
        have HM := Lib.hid hq
        clear hq hk hc0 hc1 hc2
        by_cases hd : m < K
        · have m4 : (m : Int) < 4 := by omega
          go_wp2_with (go_at_call 57; refine (TAKE1.out _ m hd HM.out).mono ?_; rintro e w1 ⟨rfl, hq1, hk⟩; have H1 := Lib.hid (HK.out.trans hk); have HQ1 := Lib.hid hq1; clear hk hq1)
          go_roundg (4 - (m + 1))
          case measure => omega
          case rel => exact ⟨m + 1, hd, rfl, by go_num, HQ1.out, H1.out⟩
        · obtain rfl : m = K := by omega
          clear hm hd
          rcases hA with ⟨hK3, hAe, hz⟩ | ⟨rfl, rfl⟩
          · have m4 : (m : Int) < 4 := by omega
            have T0 := Lib.hid (btake_yes B w.heap.size _ bs (t + m) 1 _ HM.out (by omega) (by omega) (by omega))
            rw [take1 bs t m (by omega), hz] at T0
            have T0 : Hid (Calls Tryd.prog 57 #[.pointer (some ⟨w.heap.size, 0, none⟩), .int .i64 1] wr (Taken wr B w.heap.size (.slice ao (packB bs).length cp) bs (t + A) 0 true)) := Lib.hid (by rw [hAe]; exact T0.out)
            clear hAe hz hK3
            go_wp2_with (first
              | (go_at_call 57; refine (TAKES.out _ HQ1.out).mono ?_; rintro e w2 ⟨rfl, _, hk⟩; have H2 := Lib.hid (H1.out.trans hk); clear hk)
              | (go_at_call 57; refine T0.out.mono ?_; rintro e w1 ⟨rfl, hq1, hk⟩; have H1 := Lib.hid (HK.out.trans hk); have hcel := TAB.out _ H1.out; have HQ1 := Lib.hid hq1; clear hk hq1))
            go_ret2
            exact FINE.out _ 2 H2.out
          · have H1 := HK
            have HQ1 := HM
            go_wp2_with (first
              | (go_at_call 57; refine (TAKES.out _ HQ1.out).mono ?_; rintro e w2 ⟨rfl, _, hk⟩; have H2 := Lib.hid (H1.out.trans hk); clear hk))
            go_ret2
            exact FINE.out _ 2 H2.out
    · obtain ⟨X, hX⟩ : ∃ X, X = cutI x S := ⟨_, rfl⟩
      have hXr := cutI_I64 x S hSc
      have HCUT := cut_any x hx64 S hSc
      rw [← hX] at hXr HCUT hrest
      have HCUT := Lib.hid HCUT
      have HWAY := Lib.hid (way_any X hXr.1 hXr.2)
      obtain ⟨t2, ht2⟩ : ∃ t2, t2 = t + A + S := ⟨_, rfl⟩
      have HTE := Lib.hid (show t + (A + S) = t2 by omega)
      rw [List.drop_drop] at hx
      have TAKEX := Lib.hid fun w1 (h : BrAt w1 B w.heap.size (.slice ao (packB bs).length cp) bs (t + A)) => show Calls Tryd.prog 57 #[.pointer (some ⟨w.heap.size, 0, none⟩), .int .i64 S] w1 (Taken w1 B w.heap.size (.slice ao (packB bs).length cp) bs t2 x true) from by
        have := btake_yes B w.heap.size _ bs (t + A) S w1 h (by omega) (by omega) (by omega)
        rw [← hx] at this; rw [ht2]; exact this
      clear hx ht2 hX hXr hS hK
      rcases hrest with ⟨h4, e⟩ | ⟨h4, e⟩
      · rw [e]
        obtain ⟨C, hC⟩ : ∃ C, C = wayN X := ⟨_, rfl⟩
        have hne : (((C : Nat) : Int) != (K : Int)) = true := by simp; omega
        rw [← hC] at HWAY
        clear hC h4
        have HQQ := Lib.hid HQ
        have HW0 := Lib.hid hw0
        clear HQ e hdl hole hw0
        go_enter Tryd.func85, Tryd.ntmps85
        go_wp2
        rw [← HW0.out]
        go_loopg [5, 6, 7] 4 (fun g s5 s6 s7 wr => ∃ m : Nat, m ≤ K ∧ g = 4 - m ∧ s5 = .int .i64 m ∧ BrAt wr B w.heap.size (.slice ao (packB bs).length cp) bs (t + m) ∧ Kept (fun k => k = w.heap.size) w0 wr)
        case atStart => exact ⟨0, Nat.zero_le _, rfl, rfl, HQQ.out, Kept.refl _ _⟩
        case round =>
          obtain ⟨m, hm, rfl, rfl, hq, hk⟩ := hrel
          have hcel0 := TAB.out _ hk
          have HK := Lib.hid hk
          have HM := Lib.hid hq
          clear hq hk hc0 hc1 hc2
          by_cases hd : m < K
          · have m4 : (m : Int) < 4 := by omega
            go_wp2_with (go_at_call 57; refine (TAKE1.out _ m hd HM.out).mono ?_; rintro e w1 ⟨rfl, hq1, hk⟩; have H1 := Lib.hid (HK.out.trans hk); have HQ1 := Lib.hid hq1; clear hk hq1)
            go_roundg (4 - (m + 1))
            case measure => omega
            case rel => exact ⟨m + 1, hd, rfl, by go_num, HQ1.out, H1.out⟩
          · obtain rfl : m = K := by omega
            clear hm hd
            rcases hA with ⟨hK3, hAe, hz⟩ | ⟨rfl, rfl⟩
            · have m4 : (m : Int) < 4 := by omega
              have T0 := Lib.hid (btake_yes B w.heap.size _ bs (t + m) 1 _ HM.out (by omega) (by omega) (by omega))
              rw [take1 bs t m (by omega), hz] at T0
              have T0 : Hid (Calls Tryd.prog 57 #[.pointer (some ⟨w.heap.size, 0, none⟩), .int .i64 1] wr (Taken wr B w.heap.size (.slice ao (packB bs).length cp) bs (t + A) 0 true)) := Lib.hid (by rw [hAe]; exact T0.out)
              clear hAe hz hK3
              go_wp2_with (first
                | (go_at_call 57; refine (TAKEX.out _ HQ1.out).mono ?_; rintro e w2 ⟨rfl, _, hk⟩; have H2 := Lib.hid (H1.out.trans hk); have hcel2 := TAB.out _ H2.out; clear hk)
                | (go_at_call 94; refine (HCUT.out _).mono ?_; rintro e w' ⟨rfl, rfl⟩)
                | (go_at_call 82; refine (HWAY.out _ (HTT.out.kept (FIN0.out _ H2.out))).mono ?_; rintro e w' ⟨rfl, rfl⟩)
                | (go_at_call 57; refine T0.out.mono ?_; rintro e w1 ⟨rfl, hq1, hk⟩; have H1 := Lib.hid (HK.out.trans hk); have hcel := TAB.out _ H1.out; have HQ1 := Lib.hid hq1; clear hk hq1))
              go_ret2
              exact FINE.out _ 3 H2.out
            · have H1 := HK
              have HQ1 := HM
              go_wp2_with (first
                | (go_at_call 57; refine (TAKEX.out _ HQ1.out).mono ?_; rintro e w2 ⟨rfl, _, hk⟩; have H2 := Lib.hid (H1.out.trans hk); have hcel2 := TAB.out _ H2.out; clear hk)
                | (go_at_call 94; refine (HCUT.out _).mono ?_; rintro e w' ⟨rfl, rfl⟩)
                | (go_at_call 82; refine (HWAY.out _ (HTT.out.kept (FIN0.out _ H2.out))).mono ?_; rintro e w' ⟨rfl, rfl⟩))
              go_ret2
              exact FINE.out _ 3 H2.out
      · rw [e]
        obtain ⟨C, hC⟩ : ∃ C, C = wayN X := ⟨_, rfl⟩
        have hne : (((C : Nat) : Int) != (K : Int)) = false := by simp; omega
        rw [← hC] at HWAY
        clear hC h4
        have HQQ := Lib.hid HQ
        have HW0 := Lib.hid hw0
        clear HQ e hdl hole hw0
        go_enter Tryd.func85, Tryd.ntmps85
        go_wp2
        rw [← HW0.out]
        go_loopg [5, 6, 7] 4 (fun g s5 s6 s7 wr => ∃ m : Nat, m ≤ K ∧ g = 4 - m ∧ s5 = .int .i64 m ∧ BrAt wr B w.heap.size (.slice ao (packB bs).length cp) bs (t + m) ∧ Kept (fun k => k = w.heap.size) w0 wr)
        case atStart => exact ⟨0, Nat.zero_le _, rfl, rfl, HQQ.out, Kept.refl _ _⟩
        case round =>
          obtain ⟨m, hm, rfl, rfl, hq, hk⟩ := hrel
          have hcel0 := TAB.out _ hk
          have HK := Lib.hid hk
          have HM := Lib.hid hq
          clear hq hk hc0 hc1 hc2
          by_cases hd : m < K
          · have m4 : (m : Int) < 4 := by omega
            go_wp2_with (go_at_call 57; refine (TAKE1.out _ m hd HM.out).mono ?_; rintro e w1 ⟨rfl, hq1, hk⟩; have H1 := Lib.hid (HK.out.trans hk); have HQ1 := Lib.hid hq1; clear hk hq1)
            go_roundg (4 - (m + 1))
            case measure => omega
            case rel => exact ⟨m + 1, hd, rfl, by go_num, HQ1.out, H1.out⟩
          · obtain rfl : m = K := by omega
            clear hm hd
            rcases hA with ⟨hK3, hAe, hz⟩ | ⟨rfl, rfl⟩
            · have m4 : (m : Int) < 4 := by omega
              have T0 := Lib.hid (btake_yes B w.heap.size _ bs (t + m) 1 _ HM.out (by omega) (by omega) (by omega))
              rw [take1 bs t m (by omega), hz] at T0
              have T0 : Hid (Calls Tryd.prog 57 #[.pointer (some ⟨w.heap.size, 0, none⟩), .int .i64 1] wr (Taken wr B w.heap.size (.slice ao (packB bs).length cp) bs (t + A) 0 true)) := Lib.hid (by rw [hAe]; exact T0.out)
              clear hAe hz hK3
              go_wp2_with (first
                | (go_at_call 57; refine (TAKEX.out _ HQ1.out).mono ?_; rintro e w2 ⟨rfl, hq2, hk⟩; have r0 := hq2.c0; have r1 := hq2.c1; have r2 := hq2.c2; have H2 := Lib.hid (H1.out.trans hk); have hcel2 := TAB.out _ H2.out; have hp2 := HRR.out.keptF (FIN0.out _ H2.out); have s0 := hp2.c0; have s1 := hp2.c1; have s2 := hp2.c2; have f0 := hp2.free 0; have f1 := hp2.free 1; have f2 := hp2.free 2; have HP3 := Lib.hid (hp2.put3 hq2.taken); clear hk hq2 hp2)
                | (go_at_call 94; refine (HCUT.out _).mono ?_; rintro e w' ⟨rfl, rfl⟩)
                | (go_at_call 82; refine (HWAY.out _ (HTT.out.kept (FIN0.out _ H2.out))).mono ?_; rintro e w' ⟨rfl, rfl⟩)
                | (go_at_call 57; refine T0.out.mono ?_; rintro e w1 ⟨rfl, hq1, hk⟩; have H1 := Lib.hid (HK.out.trans hk); have hcel := TAB.out _ H1.out; have HQ1 := Lib.hid hq1; clear hk hq1))
              go_ret2
              exact ⟨rfl, by rw [HTE.out]; exact HP3.out.1, ((FIN0.out _ H2.out).mono (fun _ _ x => x.elim)).trans HP3.out.2⟩
            · have H1 := HK
              have HQ1 := HM
              go_wp2_with (first
                | (go_at_call 57; refine (TAKEX.out _ HQ1.out).mono ?_; rintro e w2 ⟨rfl, hq2, hk⟩; have r0 := hq2.c0; have r1 := hq2.c1; have r2 := hq2.c2; have H2 := Lib.hid (H1.out.trans hk); have hcel2 := TAB.out _ H2.out; have hp2 := HRR.out.keptF (FIN0.out _ H2.out); have s0 := hp2.c0; have s1 := hp2.c1; have s2 := hp2.c2; have f0 := hp2.free 0; have f1 := hp2.free 1; have f2 := hp2.free 2; have HP3 := Lib.hid (hp2.put3 hq2.taken); clear hk hq2 hp2)
                | (go_at_call 94; refine (HCUT.out _).mono ?_; rintro e w' ⟨rfl, rfl⟩)
                | (go_at_call 82; refine (HWAY.out _ (HTT.out.kept (FIN0.out _ H2.out))).mono ?_; rintro e w' ⟨rfl, rfl⟩))
              go_ret2
              exact ⟨rfl, by rw [HTE.out]; exact HP3.out.1, ((FIN0.out _ H2.out).mono (fun _ _ x => x.elim)).trans HP3.out.2⟩
end Go.Proofs.YtjpnfadmblmjbaaDoor
