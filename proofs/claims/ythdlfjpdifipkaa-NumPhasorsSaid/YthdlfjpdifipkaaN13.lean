/- Layer 5: the document's sum of finite floats; Sub; the walk of 'NumAdds'. -/
import Derived.Test.YthdlfjpdifipkaaN12
import Derived.Deep.RegionWith
namespace Go.Proofs.Ythdlfjpdifipkaa
open Go.RowKit
attribute [local go_sem ↓] Go.wp_at_zero Go.wp_at_succ

theorem shN_bd (d n : Nat) (hn : n < 9007199254740992) : shN d (8 * n) < 72057594037927936 := by
  by_cases h : d = 0
  · subst h; simp only [shN]; omega
  · have := shN_small d n (by omega) hn; omega

set_option maxHeartbeats 8000000 in
set_option maxRecDepth 100000 in
theorem refAdd_fin (a b : Nat) (ha : a < 18446744073709551616) (hb : b < 18446744073709551616) (w : World) (h1 : oddI (a : Int) = false) (h2 : oddI (b : Int) = false) (h3 : finI (a : Int) = true) (h4 : finI (b : Int) = true) :
    Calls Try.prog 15 #[.int .u64 a, .int .u64 b] w fun e w' => e = .returned (.int .u64 ((refAddN a b : Nat) : Int)) ∧ w = w' := by
  have HO := Lib.hid (refOdd_any (a : Int) (by omega) (by omega))
  have HP := Lib.hid (refOdd_any (b : Int) (by omega) (by omega))
  have HF := Lib.hid (refFinite_any (a : Int) (by omega) (by omega))
  have HG := Lib.hid (refFinite_any (b : Int) (by omega) (by omega))
  rw [h1] at HO
  rw [h2] at HP
  rw [h3] at HF
  rw [h4] at HG
  have HC := Lib.hid (ref_core a b ha h1 h2 h3 h4)
  have HWa := Lib.hid (wide_any a ha)
  have HWb := Lib.hid (wide_any b hb)
  have HSa := Lib.hid (fun d (hd : d ≤ 1000000) => shifted_any (8 * wM a) d (by have := wM_lt a; omega) hd)
  have HSb := Lib.hid (fun d (hd : d ≤ 1000000) => shifted_any (8 * wM b) d (by have := wM_lt b; omega) hd)
  have hma := wM_lt a
  have hmb := wM_lt b
  have hea := wE_bd a
  have heb := wE_bd b
  have hxa : Hid (∀ d, shN d (8 * wM a) < 72057594037927936) := Lib.hid fun d => shN_bd d _ hma
  have hxb : Hid (∀ d, shN d (8 * wM b) < 72057594037927936) := Lib.hid fun d => shN_bd d _ hmb
  obtain ⟨m, hm⟩ : ∃ m, m = wM a := ⟨_, rfl⟩
  obtain ⟨n, hn⟩ : ∃ n, n = wM b := ⟨_, rfl⟩
  obtain ⟨e, he⟩ : ∃ e, e = wE a := ⟨_, rfl⟩
  obtain ⟨f, hf⟩ : ∃ f, f = wE b := ⟨_, rfl⟩
  rw [← hm] at HC HWa HSa hma hxa
  rw [← hn] at HC HWb HSb hmb hxb
  rw [← he] at HC HWa hea
  rw [← hf] at HC HWb heb
  clear hm hn he hf h1 h2 h3 h4
  obtain ⟨m8, hm8⟩ : ∃ x, x = 8 * m := ⟨_, rfl⟩
  obtain ⟨n8, hn8⟩ : ∃ x, x = 8 * n := ⟨_, rfl⟩
  rw [← hm8] at HC HSa hxa
  rw [← hn8] at HC HSb hxb
  have i1 : 8 * (m : Int) = (m8 : Int) := by omega
  have i2 : IntKind.u64.wrap (m8 : Int) = (m8 : Int) := by rw [IntKind.wrap_u64]; omega
  have i3 : 8 * (n : Int) = (n8 : Int) := by omega
  have i4 : IntKind.u64.wrap (n8 : Int) = (n8 : Int) := by rw [IntKind.wrap_u64]; omega
  have hm9 : m8 < 72057594037927936 := by omega
  have hn9 : n8 < 72057594037927936 := by omega
  obtain ⟨sa, hsa⟩ : ∃ s, s = sgN a := ⟨_, rfl⟩
  obtain ⟨sb, hsb⟩ : ∃ s, s = sgN b := ⟨_, rfl⟩
  have j1 : decide ((9223372036854775808 : Int) ≤ (a : Int)) = sa := by rw [hsa]; unfold sgN; rw [decide_eq_decide]; omega
  have j2 : decide ((9223372036854775808 : Int) ≤ (b : Int)) = sb := by rw [hsb]; unfold sgN; rw [decide_eq_decide]; omega
  rw [← hsa, ← hsb] at HC
  clear hsa hsb hma hmb hm8 hn8
  have a0 : (0 : Int) ≤ (a : Int) := by omega
  have b0 : (0 : Int) ≤ (b : Int) := by omega
  by_cases hlt : e < f
  · have q1 : decide ((e : Int) < (f : Int)) = true := decide_eq_true (by omega)
    obtain ⟨d, hd⟩ : ∃ d, d = f - e := ⟨_, rfl⟩
    have d1 : (f : Int) - (e : Int) = (d : Int) := by omega
    have d2 : IntKind.i64.wrap (d : Int) = (d : Int) := IntWalk.i64_in _ ⟨by omega, by omega⟩
    have HS := Lib.hid (HSa.out d (by omega))
    have hx := hxa.out d
    have HC2 := HC.out
    rw [if_pos hlt, ← hd] at HC2
    obtain ⟨x, hxe⟩ : ∃ x, x = shN d m8 := ⟨_, rfl⟩
    obtain ⟨y, hye⟩ : ∃ y, y = n8 := ⟨_, rfl⟩
    rw [← hxe] at HS hx HC2
    subst hye
    have HCC := Lib.hid HC2
    have hE := heb
    clear hxe hd HC2 HC HSa HSb hxa hxb hea
    by_cases hs : sa = sb
    · subst hs
      have q2 : (sa == sa) = true := by simp
      by_cases hz : x = 0 ∧ y = 0
      · have z1 : ((x : Int) == 0) = true := beq_iff_eq.2 (by omega)
        have z2 : ((y : Int) == 0) = true := beq_iff_eq.2 (by omega)
        have HFIN : Hid (refAddN a b = a) := Lib.hid (by rw [HCC.out]; unfold coreN; rw [if_pos rfl, if_pos hz])
        clear hz
        have HRD := Lib.hid (round_zero (f : Int) false)
        go_enter Try.func15, Try.ntmps15
        go_wp2_with (first
        | (go_at_call_of 9 a; refine (HO.out _).mono ?_; rintro e w' ⟨rfl, rfl⟩)
        | (go_at_call_of 9 b; refine (HP.out _).mono ?_; rintro e w' ⟨rfl, rfl⟩)
        | (go_at_call_of 11 a; refine (HF.out _).mono ?_; rintro e w' ⟨rfl, rfl⟩)
        | (go_at_call_of 11 b; refine (HG.out _).mono ?_; rintro e w' ⟨rfl, rfl⟩)
        | (go_at_call_of 26 a; refine (HWa.out _).mono ?_; rintro e w' ⟨rfl, rfl⟩)
        | (go_at_call_of 26 b; refine (HWb.out _).mono ?_; rintro e w' ⟨rfl, rfl⟩)
        | (go_at_call 27; refine (HS.out _).mono ?_; rintro e w' ⟨rfl, rfl⟩)
        | (go_at_call 28; refine (HRD.out _).mono ?_; rintro e w' ⟨rfl, rfl⟩))
        go_ret
        exact ⟨by rw [HFIN.out]; rfl, rfl⟩
      · have zz : ((x : Int) == 0) = false ∨ (((x : Int) == 0) = true ∧ ((y : Int) == 0) = false) := by
          by_cases h : x = 0
          · exact .inr ⟨beq_iff_eq.2 (by omega), beq_eq_false_iff_ne.2 (by omega)⟩
          · exact .inl (beq_eq_false_iff_ne.2 (by omega))
        obtain ⟨S, hS⟩ : ∃ S, S = x + y := ⟨_, rfl⟩
        have s1 : (x : Int) + (y : Int) = (S : Int) := by omega
        have s2 : IntKind.u64.wrap (S : Int) = (S : Int) := by rw [IntKind.wrap_u64]; omega
        have HRD := Lib.hid (round_any S f sa (by omega) (by omega) (by omega) (by omega))
        have HFIN : Hid (refAddN a b = floatN sa (roundN S f)) := Lib.hid (by rw [HCC.out]; unfold coreN; rw [if_pos rfl, if_neg hz, hS])
        clear hz hS
        rcases zz with z1 | ⟨z1, z2⟩
        all_goals
          go_enter Try.func15, Try.ntmps15
          go_wp2_with (first
        | (go_at_call_of 9 a; refine (HO.out _).mono ?_; rintro e w' ⟨rfl, rfl⟩)
        | (go_at_call_of 9 b; refine (HP.out _).mono ?_; rintro e w' ⟨rfl, rfl⟩)
        | (go_at_call_of 11 a; refine (HF.out _).mono ?_; rintro e w' ⟨rfl, rfl⟩)
        | (go_at_call_of 11 b; refine (HG.out _).mono ?_; rintro e w' ⟨rfl, rfl⟩)
        | (go_at_call_of 26 a; refine (HWa.out _).mono ?_; rintro e w' ⟨rfl, rfl⟩)
        | (go_at_call_of 26 b; refine (HWb.out _).mono ?_; rintro e w' ⟨rfl, rfl⟩)
        | (go_at_call 27; refine (HS.out _).mono ?_; rintro e w' ⟨rfl, rfl⟩)
        | (go_at_call 28; refine (HRD.out _).mono ?_; rintro e w' ⟨rfl, rfl⟩))
          go_ret
          exact ⟨by rw [HFIN.out]; rfl, rfl⟩
    · have q2 : (sa == sb) = false := by cases sa <;> cases sb <;> first | exact absurd rfl hs | rfl
      by_cases hge : y ≤ x
      · have g1 : decide ((y : Int) ≤ (x : Int)) = true := decide_eq_true (by omega)
        obtain ⟨S, hS⟩ : ∃ S, S = x - y := ⟨_, rfl⟩
        have s1 : (x : Int) - (y : Int) = (S : Int) := by omega
        have s2 : IntKind.u64.wrap (S : Int) = (S : Int) := by rw [IntKind.wrap_u64]; omega
        by_cases hz : x = y
        · have g2 : decide ((y : Int) < (x : Int)) = false := decide_eq_false (by omega)
          have g3 : decide (y < x) = false := decide_eq_false (by omega)
          have hS0 : S = 0 := by omega
          have HRD := Lib.hid (round_zero (f : Int) false)
          have HFIN : Hid (refAddN a b = 0) := Lib.hid (by rw [HCC.out]; unfold coreN; rw [if_neg hs, if_pos hge, decide_eq_false (by omega), Bool.and_false, ← hS, hS0, roundN_zero]; rfl)
          subst hS0
          have s3 : (x : Int) - (y : Int) = 0 := by omega
          clear s1 s2 hS
          cases sa <;> cases sb <;> first | exact absurd rfl hs | skip
          all_goals
            go_enter Try.func15, Try.ntmps15
            go_wp2_with (first
        | (go_at_call_of 9 a; refine (HO.out _).mono ?_; rintro e w' ⟨rfl, rfl⟩)
        | (go_at_call_of 9 b; refine (HP.out _).mono ?_; rintro e w' ⟨rfl, rfl⟩)
        | (go_at_call_of 11 a; refine (HF.out _).mono ?_; rintro e w' ⟨rfl, rfl⟩)
        | (go_at_call_of 11 b; refine (HG.out _).mono ?_; rintro e w' ⟨rfl, rfl⟩)
        | (go_at_call_of 26 a; refine (HWa.out _).mono ?_; rintro e w' ⟨rfl, rfl⟩)
        | (go_at_call_of 26 b; refine (HWb.out _).mono ?_; rintro e w' ⟨rfl, rfl⟩)
        | (go_at_call 27; refine (HS.out _).mono ?_; rintro e w' ⟨rfl, rfl⟩)
        | (go_at_call 28; refine (HRD.out _).mono ?_; rintro e w' ⟨rfl, rfl⟩))
            go_ret
            exact ⟨by rw [HFIN.out]; rfl, rfl⟩
        · have g2 : decide ((y : Int) < (x : Int)) = true := decide_eq_true (by omega)
          have g3 : decide (y < x) = true := decide_eq_true (by omega)
          have HRD := Lib.hid (round_any S f sa (by omega) (by omega) (by omega) (by omega))
          have HFIN : Hid (refAddN a b = floatN sa (roundN S f)) := Lib.hid (by rw [HCC.out]; unfold coreN; rw [if_neg hs, if_pos hge, decide_eq_true (by omega), Bool.and_true, hS])
          clear hS
          cases sa <;> cases sb <;> first | exact absurd rfl hs | skip
          all_goals
            go_enter Try.func15, Try.ntmps15
            go_wp2_with (first
        | (go_at_call_of 9 a; refine (HO.out _).mono ?_; rintro e w' ⟨rfl, rfl⟩)
        | (go_at_call_of 9 b; refine (HP.out _).mono ?_; rintro e w' ⟨rfl, rfl⟩)
        | (go_at_call_of 11 a; refine (HF.out _).mono ?_; rintro e w' ⟨rfl, rfl⟩)
        | (go_at_call_of 11 b; refine (HG.out _).mono ?_; rintro e w' ⟨rfl, rfl⟩)
        | (go_at_call_of 26 a; refine (HWa.out _).mono ?_; rintro e w' ⟨rfl, rfl⟩)
        | (go_at_call_of 26 b; refine (HWb.out _).mono ?_; rintro e w' ⟨rfl, rfl⟩)
        | (go_at_call 27; refine (HS.out _).mono ?_; rintro e w' ⟨rfl, rfl⟩)
        | (go_at_call 28; refine (HRD.out _).mono ?_; rintro e w' ⟨rfl, rfl⟩))
            go_ret
            exact ⟨by rw [HFIN.out]; rfl, rfl⟩
      · have g1 : decide ((y : Int) ≤ (x : Int)) = false := decide_eq_false (by omega)
        obtain ⟨S, hS⟩ : ∃ S, S = y - x := ⟨_, rfl⟩
        have s1 : (y : Int) - (x : Int) = (S : Int) := by omega
        have s2 : IntKind.u64.wrap (S : Int) = (S : Int) := by rw [IntKind.wrap_u64]; omega
        have HRD := Lib.hid (round_any S f sb (by omega) (by omega) (by omega) (by omega))
        have HFIN : Hid (refAddN a b = floatN sb (roundN S f)) := Lib.hid (by rw [HCC.out]; unfold coreN; rw [if_neg hs, if_neg hge, hS])
        clear hS
        cases sa <;> cases sb <;> first | exact absurd rfl hs | skip
        all_goals
          go_enter Try.func15, Try.ntmps15
          go_wp2_with (first
        | (go_at_call_of 9 a; refine (HO.out _).mono ?_; rintro e w' ⟨rfl, rfl⟩)
        | (go_at_call_of 9 b; refine (HP.out _).mono ?_; rintro e w' ⟨rfl, rfl⟩)
        | (go_at_call_of 11 a; refine (HF.out _).mono ?_; rintro e w' ⟨rfl, rfl⟩)
        | (go_at_call_of 11 b; refine (HG.out _).mono ?_; rintro e w' ⟨rfl, rfl⟩)
        | (go_at_call_of 26 a; refine (HWa.out _).mono ?_; rintro e w' ⟨rfl, rfl⟩)
        | (go_at_call_of 26 b; refine (HWb.out _).mono ?_; rintro e w' ⟨rfl, rfl⟩)
        | (go_at_call 27; refine (HS.out _).mono ?_; rintro e w' ⟨rfl, rfl⟩)
        | (go_at_call 28; refine (HRD.out _).mono ?_; rintro e w' ⟨rfl, rfl⟩))
          go_ret
          exact ⟨by rw [HFIN.out]; rfl, rfl⟩
  · have q1 : decide ((e : Int) < (f : Int)) = false := decide_eq_false (by omega)
    obtain ⟨d, hd⟩ : ∃ d, d = e - f := ⟨_, rfl⟩
    have d1 : (e : Int) - (f : Int) = (d : Int) := by omega
    have d2 : IntKind.i64.wrap (d : Int) = (d : Int) := IntWalk.i64_in _ ⟨by omega, by omega⟩
    have HS := Lib.hid (HSb.out d (by omega))
    have hx := hxb.out d
    have HC2 := HC.out
    rw [if_neg hlt, ← hd] at HC2
    obtain ⟨x, hxe⟩ : ∃ x, x = shN d n8 := ⟨_, rfl⟩
    obtain ⟨y, hye⟩ : ∃ y, y = m8 := ⟨_, rfl⟩
    rw [← hxe] at HS hx HC2
    subst hye
    have HCC := Lib.hid HC2
    have hE := hea
    clear hxe hd HC2 HC HSa HSb hxa hxb heb
    by_cases hs : sa = sb
    · subst hs
      have q2 : (sa == sa) = true := by simp
      by_cases hz : y = 0 ∧ x = 0
      · have z1 : ((y : Int) == 0) = true := beq_iff_eq.2 (by omega)
        have z2 : ((x : Int) == 0) = true := beq_iff_eq.2 (by omega)
        have HFIN : Hid (refAddN a b = a) := Lib.hid (by rw [HCC.out]; unfold coreN; rw [if_pos rfl, if_pos hz])
        clear hz
        have HRD := Lib.hid (round_zero (e : Int) false)
        go_enter Try.func15, Try.ntmps15
        go_wp2_with (first
        | (go_at_call_of 9 a; refine (HO.out _).mono ?_; rintro e w' ⟨rfl, rfl⟩)
        | (go_at_call_of 9 b; refine (HP.out _).mono ?_; rintro e w' ⟨rfl, rfl⟩)
        | (go_at_call_of 11 a; refine (HF.out _).mono ?_; rintro e w' ⟨rfl, rfl⟩)
        | (go_at_call_of 11 b; refine (HG.out _).mono ?_; rintro e w' ⟨rfl, rfl⟩)
        | (go_at_call_of 26 a; refine (HWa.out _).mono ?_; rintro e w' ⟨rfl, rfl⟩)
        | (go_at_call_of 26 b; refine (HWb.out _).mono ?_; rintro e w' ⟨rfl, rfl⟩)
        | (go_at_call 27; refine (HS.out _).mono ?_; rintro e w' ⟨rfl, rfl⟩)
        | (go_at_call 28; refine (HRD.out _).mono ?_; rintro e w' ⟨rfl, rfl⟩))
        go_ret
        exact ⟨by rw [HFIN.out]; rfl, rfl⟩
      · have zz : ((y : Int) == 0) = false ∨ (((y : Int) == 0) = true ∧ ((x : Int) == 0) = false) := by
          by_cases h : y = 0
          · exact .inr ⟨beq_iff_eq.2 (by omega), beq_eq_false_iff_ne.2 (by omega)⟩
          · exact .inl (beq_eq_false_iff_ne.2 (by omega))
        obtain ⟨S, hS⟩ : ∃ S, S = y + x := ⟨_, rfl⟩
        have s1 : (y : Int) + (x : Int) = (S : Int) := by omega
        have s2 : IntKind.u64.wrap (S : Int) = (S : Int) := by rw [IntKind.wrap_u64]; omega
        have HRD := Lib.hid (round_any S e sa (by omega) (by omega) (by omega) (by omega))
        have HFIN : Hid (refAddN a b = floatN sa (roundN S e)) := Lib.hid (by rw [HCC.out]; unfold coreN; rw [if_pos rfl, if_neg hz, hS])
        clear hz hS
        rcases zz with z1 | ⟨z1, z2⟩
        all_goals
          go_enter Try.func15, Try.ntmps15
          go_wp2_with (first
        | (go_at_call_of 9 a; refine (HO.out _).mono ?_; rintro e w' ⟨rfl, rfl⟩)
        | (go_at_call_of 9 b; refine (HP.out _).mono ?_; rintro e w' ⟨rfl, rfl⟩)
        | (go_at_call_of 11 a; refine (HF.out _).mono ?_; rintro e w' ⟨rfl, rfl⟩)
        | (go_at_call_of 11 b; refine (HG.out _).mono ?_; rintro e w' ⟨rfl, rfl⟩)
        | (go_at_call_of 26 a; refine (HWa.out _).mono ?_; rintro e w' ⟨rfl, rfl⟩)
        | (go_at_call_of 26 b; refine (HWb.out _).mono ?_; rintro e w' ⟨rfl, rfl⟩)
        | (go_at_call 27; refine (HS.out _).mono ?_; rintro e w' ⟨rfl, rfl⟩)
        | (go_at_call 28; refine (HRD.out _).mono ?_; rintro e w' ⟨rfl, rfl⟩))
          go_ret
          exact ⟨by rw [HFIN.out]; rfl, rfl⟩
    · have q2 : (sa == sb) = false := by cases sa <;> cases sb <;> first | exact absurd rfl hs | rfl
      by_cases hge : x ≤ y
      · have g1 : decide ((x : Int) ≤ (y : Int)) = true := decide_eq_true (by omega)
        obtain ⟨S, hS⟩ : ∃ S, S = y - x := ⟨_, rfl⟩
        have s1 : (y : Int) - (x : Int) = (S : Int) := by omega
        have s2 : IntKind.u64.wrap (S : Int) = (S : Int) := by rw [IntKind.wrap_u64]; omega
        by_cases hz : y = x
        · have g2 : decide ((x : Int) < (y : Int)) = false := decide_eq_false (by omega)
          have g3 : decide (x < y) = false := decide_eq_false (by omega)
          have hS0 : S = 0 := by omega
          have HRD := Lib.hid (round_zero (e : Int) false)
          have HFIN : Hid (refAddN a b = 0) := Lib.hid (by rw [HCC.out]; unfold coreN; rw [if_neg hs, if_pos hge, decide_eq_false (by omega), Bool.and_false, ← hS, hS0, roundN_zero]; rfl)
          subst hS0
          have s3 : (y : Int) - (x : Int) = 0 := by omega
          clear s1 s2 hS
          cases sa <;> cases sb <;> first | exact absurd rfl hs | skip
          all_goals
            go_enter Try.func15, Try.ntmps15
            go_wp2_with (first
        | (go_at_call_of 9 a; refine (HO.out _).mono ?_; rintro e w' ⟨rfl, rfl⟩)
        | (go_at_call_of 9 b; refine (HP.out _).mono ?_; rintro e w' ⟨rfl, rfl⟩)
        | (go_at_call_of 11 a; refine (HF.out _).mono ?_; rintro e w' ⟨rfl, rfl⟩)
        | (go_at_call_of 11 b; refine (HG.out _).mono ?_; rintro e w' ⟨rfl, rfl⟩)
        | (go_at_call_of 26 a; refine (HWa.out _).mono ?_; rintro e w' ⟨rfl, rfl⟩)
        | (go_at_call_of 26 b; refine (HWb.out _).mono ?_; rintro e w' ⟨rfl, rfl⟩)
        | (go_at_call 27; refine (HS.out _).mono ?_; rintro e w' ⟨rfl, rfl⟩)
        | (go_at_call 28; refine (HRD.out _).mono ?_; rintro e w' ⟨rfl, rfl⟩))
            go_ret
            exact ⟨by rw [HFIN.out]; rfl, rfl⟩
        · have g2 : decide ((x : Int) < (y : Int)) = true := decide_eq_true (by omega)
          have g3 : decide (x < y) = true := decide_eq_true (by omega)
          have HRD := Lib.hid (round_any S e sa (by omega) (by omega) (by omega) (by omega))
          have HFIN : Hid (refAddN a b = floatN sa (roundN S e)) := Lib.hid (by rw [HCC.out]; unfold coreN; rw [if_neg hs, if_pos hge, decide_eq_true (by omega), Bool.and_true, hS])
          clear hS
          cases sa <;> cases sb <;> first | exact absurd rfl hs | skip
          all_goals
            go_enter Try.func15, Try.ntmps15
            go_wp2_with (first
        | (go_at_call_of 9 a; refine (HO.out _).mono ?_; rintro e w' ⟨rfl, rfl⟩)
        | (go_at_call_of 9 b; refine (HP.out _).mono ?_; rintro e w' ⟨rfl, rfl⟩)
        | (go_at_call_of 11 a; refine (HF.out _).mono ?_; rintro e w' ⟨rfl, rfl⟩)
        | (go_at_call_of 11 b; refine (HG.out _).mono ?_; rintro e w' ⟨rfl, rfl⟩)
        | (go_at_call_of 26 a; refine (HWa.out _).mono ?_; rintro e w' ⟨rfl, rfl⟩)
        | (go_at_call_of 26 b; refine (HWb.out _).mono ?_; rintro e w' ⟨rfl, rfl⟩)
        | (go_at_call 27; refine (HS.out _).mono ?_; rintro e w' ⟨rfl, rfl⟩)
        | (go_at_call 28; refine (HRD.out _).mono ?_; rintro e w' ⟨rfl, rfl⟩))
            go_ret
            exact ⟨by rw [HFIN.out]; rfl, rfl⟩
      · have g1 : decide ((x : Int) ≤ (y : Int)) = false := decide_eq_false (by omega)
        obtain ⟨S, hS⟩ : ∃ S, S = x - y := ⟨_, rfl⟩
        have s1 : (x : Int) - (y : Int) = (S : Int) := by omega
        have s2 : IntKind.u64.wrap (S : Int) = (S : Int) := by rw [IntKind.wrap_u64]; omega
        have HRD := Lib.hid (round_any S e sb (by omega) (by omega) (by omega) (by omega))
        have HFIN : Hid (refAddN a b = floatN sb (roundN S e)) := Lib.hid (by rw [HCC.out]; unfold coreN; rw [if_neg hs, if_neg hge, hS])
        clear hS
        cases sa <;> cases sb <;> first | exact absurd rfl hs | skip
        all_goals
          go_enter Try.func15, Try.ntmps15
          go_wp2_with (first
        | (go_at_call_of 9 a; refine (HO.out _).mono ?_; rintro e w' ⟨rfl, rfl⟩)
        | (go_at_call_of 9 b; refine (HP.out _).mono ?_; rintro e w' ⟨rfl, rfl⟩)
        | (go_at_call_of 11 a; refine (HF.out _).mono ?_; rintro e w' ⟨rfl, rfl⟩)
        | (go_at_call_of 11 b; refine (HG.out _).mono ?_; rintro e w' ⟨rfl, rfl⟩)
        | (go_at_call_of 26 a; refine (HWa.out _).mono ?_; rintro e w' ⟨rfl, rfl⟩)
        | (go_at_call_of 26 b; refine (HWb.out _).mono ?_; rintro e w' ⟨rfl, rfl⟩)
        | (go_at_call 27; refine (HS.out _).mono ?_; rintro e w' ⟨rfl, rfl⟩)
        | (go_at_call 28; refine (HRD.out _).mono ?_; rintro e w' ⟨rfl, rfl⟩))
          go_ret
          exact ⟨by rw [HFIN.out]; rfl, rfl⟩

theorem refAdd_any (a b : Nat) (ha : a < 18446744073709551616) (hb : b < 18446744073709551616) (w : World) :
    Calls Try.prog 15 #[.int .u64 a, .int .u64 b] w fun e w' => e = .returned (.int .u64 (addI a b)) ∧ w = w' := by
  rw [add_ref a b ha hb]
  cases h1 : oddI (a : Int) with
  | true => exact refAdd_odd a b ha hb w (.inl h1)
  | false =>
    cases h2 : oddI (b : Int) with
    | true => exact refAdd_odd a b ha hb w (.inr ⟨h1, h2⟩)
    | false =>
      cases h3 : finI (a : Int) with
      | false => exact refAdd_inf a b ha hb w h1 h2 (.inl h3)
      | true =>
        cases h4 : finI (b : Int) with
        | false => exact refAdd_inf a b ha hb w h1 h2 (.inr ⟨h3, h4⟩)
        | true => exact refAdd_fin a b ha hb w h1 h2 h3 h4
end Go.Proofs.Ythdlfjpdifipkaa
