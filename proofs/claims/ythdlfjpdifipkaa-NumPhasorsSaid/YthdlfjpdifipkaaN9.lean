/- Layer 5: the document's wide, shifted, round. -/
import Derived.Test.YthdlfjpdifipkaaN8
import Derived.Test.YthdlfjpdifipkaaN4
import Derived.Lib.Hide
import Derived.LoopTactic
import Derived.Deep.DrawnRows
namespace Go.Proofs.Ythdlfjpdifipkaa
open Go.RowKit
attribute [local go_sem ↓] Go.wp_at_zero Go.wp_at_succ

theorem sh1_lt (x : Nat) (h : 2 ≤ x) : sh1 x < x := by rw [sh1_val]; split <;> omega
theorem sh1_pos (x : Nat) (h : 0 < x) : 0 < sh1 x := by rw [sh1_val]; split <;> omega

set_option maxHeartbeats 1000000 in
theorem shifted_any (m k : Nat) (hm : m < 18446744073709551616) (hk : k ≤ 1000000) (w : World) :
    Calls Try.prog 27 #[.int .u64 m, .int .i64 k] w fun e w' => e = .returned (.int .u64 ((shN k m : Nat) : Int)) ∧ w = w' := by
  go_enter Try.func27, Try.ntmps27
  go_wp2
  go_loopw [0, 5] (fun x t wr => ∃ y j : Nat, j ≤ k ∧ x = .int .u64 y ∧ t = .int .i64 j ∧ y < 18446744073709551616 ∧ shN (k - j) y = shN k m ∧ w = wr) (fun _ t _ => k - (intOf t).toNat)
  case atStart => exact ⟨m, 0, by omega, rfl, rfl, hm, rfl, rfl⟩
  case round =>
    obtain ⟨y, j, hj, rfl, rfl, hy, hs, rfl⟩ := hrel
    by_cases hd : j < k
    · have hd' : (j : Int) < (k : Int) := by omega
      by_cases h2 : y < 2
      · have HS : Hid (shN k m = y) := Lib.hid (by rw [← hs, show k - j = (k - j - 1) + 1 by omega]; unfold shN; rw [if_pos h2])
        have q1 : decide ((y : Int) < 2) = true := decide_eq_true (by omega)
        clear hs h2
        go_wp2
        go_ret
        exact ⟨by rw [HS.out]; rfl, rfl⟩
      · have q1 : decide ((y : Int) < 2) = false := decide_eq_false (by omega)
        have e1 : bits .or .u64 ((y : Int) / 2) ((y : Int) % 2) = ((sh1 y : Nat) : Int) := by
          have := u64_or_nat (y / 2) (y % 2) (by omega) (by omega)
          unfold sh1
          rw [← this]
          congr 1 <;> omega
        have HS : Hid (shN (k - (j + 1)) (sh1 y) = shN k m) := Lib.hid (by rw [← hs, show k - j = (k - (j + 1)) + 1 by omega]; conv => rhs; unfold shN
                                                                           rw [if_neg h2])
        have hl := sh1_lt y (by omega)
        have h0 : (0 : Int) ≤ (y : Int) := by omega
        have hl2 : sh1 y < 18446744073709551616 := by omega
        obtain ⟨z, hz⟩ : ∃ z, z = sh1 y := ⟨_, rfl⟩
        rw [← hz] at e1 HS hl2
        clear hs hl hz
        go_wp2
        go_roundw
        case rel => exact ⟨z, j + 1, hd, by first | rfl | rw [e1], by go_num, hl2, HS.out, trivial⟩
        case measure => simp [intOf]; omega
    · have hjk : k = j := by omega
      subst hjk
      have HS : Hid (shN k m = y) := Lib.hid (by rw [← hs, Nat.sub_self]; rfl)
      clear hs
      go_wp2
      go_ret
      exact ⟨by rw [HS.out]; rfl, rfl⟩

set_option maxHeartbeats 1000000 in
theorem wide_any (a : Nat) (ha : a < 18446744073709551616) (w : World) :
    Calls Try.prog 26 #[.int .u64 a] w fun e w' => e = .returned (.tuple #[.int .u64 ((wM a : Nat) : Int), .int .i64 ((wE a : Nat) : Int)]) ∧ w = w' := by
  obtain ⟨E, hE⟩ : ∃ E, E = a / 4503599627370496 % 2048 := ⟨_, rfl⟩
  obtain ⟨M, hM⟩ : ∃ M, M = a % 4503599627370496 := ⟨_, rfl⟩
  have HM : Hid (wM a = if E = 0 then M else M + 4503599627370496) := Lib.hid (by unfold wM; rw [hE, hM])
  have HE : Hid (wE a = if E = 0 then 1 else E) := Lib.hid (by unfold wE; rw [hE])
  have e1 : (a : Int) / 4503599627370496 % 2048 = (E : Int) := by omega
  have e2 : IntKind.i64.wrap (E : Int) = (E : Int) := IntWalk.i64_in _ ⟨by omega, by omega⟩
  have e3 : (a : Int) % 4503599627370496 = (M : Int) := by omega
  have h0 : (0 : Int) ≤ (a : Int) := by omega
  have hMl : M < 4503599627370496 := by omega
  clear hE hM
  by_cases h : E = 0
  · subst h
    go_enter Try.func26, Try.ntmps26
    go_wp2
    go_ret2
    exact ⟨by rw [HM.out, HE.out]; rfl, rfl⟩
  · have q1 : ((E : Int) == 0) = false := beq_eq_false_iff_ne.2 (by omega)
    obtain ⟨M2, hM2⟩ : ∃ M2, M2 = M + 4503599627370496 := ⟨_, rfl⟩
    have e4 : (M : Int) + 4503599627370496 = (M2 : Int) := by omega
    have e5 : IntKind.u64.wrap (M2 : Int) = (M2 : Int) := by rw [IntKind.wrap_u64]; omega
    have HM2 := Lib.hid hM2
    clear hM2
    go_enter Try.func26, Try.ntmps26
    go_wp2
    go_ret2
    exact ⟨by rw [HM.out, HE.out, if_neg h, if_neg h, ← HM2.out]; rfl, rfl⟩

theorem upN_stop (k Y g : Nat) (h : ¬ (Y < 36028797018963968 ∧ 1 < g)) : upN k Y g = (Y, g) := by
  cases k with
  | zero => rfl
  | succ k => unfold upN; rw [if_neg h]

/-- The float of a sign and a rung. -/
def floatN (neg : Bool) (r : Nat) : Nat := if neg = true then 9223372036854775808 + r else r

set_option maxHeartbeats 16000000 in
set_option maxRecDepth 100000 in
theorem round_any (X e : Nat) (neg : Bool) (h0 : 0 < X) (he : 1 ≤ e) (he2 : e ≤ 100000) (hX : X < 144115188075855872) (w : World) :
    Calls Try.prog 28 #[.int .u64 X, .int .i64 e, .bool neg] w fun r w' => r = .returned (.int .u64 ((floatN neg (roundN X e) : Nat) : Int)) ∧ w = w' := by
  have hdn := down_near X e h0 hX
  have HRN : Hid (roundN X e = roundEnd (upN e (downN X e).1 (downN X e).2).1 (upN e (downN X e).1 (downN X e).2).2) := Lib.hid (by unfold roundN; rw [if_neg (by omega)])
  have q0 : ((X : Int) == 0) = false := beq_eq_false_iff_ne.2 (by omega)
  obtain ⟨X1, hX1⟩ : ∃ x, x = (downN X e).1 := ⟨_, rfl⟩
  obtain ⟨e1, he1⟩ : ∃ x, x = (downN X e).2 := ⟨_, rfl⟩
  rw [← hX1, ← he1] at HRN hdn
  have HX1 := Lib.hid hX1
  have HE1 := Lib.hid he1
  obtain ⟨_, hd2, hd3, hd4, hd5⟩ := hdn
  clear hX1 he1
  go_enter Try.func28, Try.ntmps28
  go_wp2
  go_loopw [0, 1] (fun x t wr => ((x = .int .u64 X ∧ t = .int .i64 e) ∨ (x = .int .u64 X1 ∧ t = .int .i64 e1 ∧ 72057594037927936 ≤ X)) ∧ w = wr) (fun x _ _ => (intOf x).toNat)
  case atStart => exact ⟨.inl ⟨rfl, rfl⟩, rfl⟩
  case round =>
    obtain ⟨hx, rfl⟩ := hrel
    have hcase : (∃ hx2 : 72057594037927936 ≤ X, u0 = .int .u64 X ∧ u1 = .int .i64 e) ∨ (u0 = .int .u64 X1 ∧ u1 = .int .i64 e1) := by
      rcases hx with ⟨h1, h2⟩ | ⟨h1, h2, h3⟩
      · by_cases hb : 72057594037927936 ≤ X
        · exact .inl ⟨hb, h1, h2⟩
        · right
          have e3 : X1 = X := by rw [HX1.out]; unfold downN; rw [if_neg hb]
          have e4 : e1 = e := by rw [HE1.out]; unfold downN; rw [if_neg hb]
          rw [e3, e4]; exact ⟨h1, h2⟩
      · exact .inr ⟨h1, h2⟩
    rcases hcase with ⟨hb, rfl, rfl⟩ | ⟨rfl, rfl⟩
    · have q1 : decide ((72057594037927936 : Int) ≤ (X : Int)) = true := decide_eq_true (by omega)
      have e3 : X1 = shN 1 X := by rw [HX1.out]; unfold downN; rw [if_pos hb]; unfold shN; rw [if_neg (by omega)]; rfl
      have e4 : e1 = e + 1 := by rw [HE1.out]; unfold downN; rw [if_pos hb]
      have hlt : X1 < X := by omega
      have HSH : Hid (Calls Try.prog 27 #[.int .u64 X, .int .i64 1] w fun e w' => e = .returned (.int .u64 ((X1 : Nat) : Int)) ∧ w = w') := Lib.hid (by
        have := shifted_any X 1 (by omega) (by omega) w
        rw [← e3] at this
        exact this)
      have f1 : (e : Int) + 1 = (e1 : Int) := by omega
      have f2 : IntKind.i64.wrap (e1 : Int) = (e1 : Int) := IntWalk.i64_in _ ⟨by omega, by omega⟩
      clear e3 e4 hx
      go_wp2_with (go_at_call 27; refine HSH.out.mono ?_; rintro e w' ⟨rfl, rfl⟩)
      go_roundw
      case rel => exact ⟨.inr ⟨rfl, rfl, hb⟩, trivial⟩
      case measure => simpa [intOf] using hlt
    · have q1 : decide ((72057594037927936 : Int) ≤ (X1 : Int)) = false := decide_eq_false (by omega)
      clear hx
      go_wp2
      go_loopw [0, 1] (fun x t wr => ∃ k Y g : Nat, x = .int .u64 Y ∧ t = .int .i64 g ∧ upN k Y g = upN e X1 e1 ∧ g ≤ k + 1 ∧ g ≤ 100001 ∧ Y < 72057594037927936 ∧ 0 < Y ∧ 1 ≤ g ∧ w = wr) (fun _ t _ => (intOf t).toNat)
      case atStart => exact ⟨e, X1, e1, rfl, rfl, rfl, hd5, by omega, hd2, hd3, by omega, rfl⟩
      case round =>
        obtain ⟨k, Y, g, rfl, rfl, hup, hgk, hg5, hY, hY0, hg1', rfl⟩ := hrel
        clear HX1 HE1 hd2 hd3 hd4 hd5 he he2 hX h0 q0
        by_cases hs : Y < 36028797018963968 ∧ 1 < g
        · obtain ⟨hs1, hs2⟩ := hs
          have q1 : decide ((Y : Int) < 36028797018963968) = true := decide_eq_true (by omega)
          have q2 : decide ((1 : Int) < (g : Int)) = true := decide_eq_true (by omega)
          have HUP : Hid (upN (k - 1) (2 * Y) (g - 1) = upN e X1 e1) := Lib.hid (by
            rw [← hup, show k = (k - 1) + 1 by omega]
            conv => rhs; unfold upN
            rw [if_pos ⟨hs1, hs2⟩]; rfl)
          obtain ⟨Y2, hY2⟩ : ∃ z, z = 2 * Y := ⟨_, rfl⟩
          obtain ⟨g2, hg2⟩ : ∃ z, z = g - 1 := ⟨_, rfl⟩
          rw [← hY2, ← hg2] at HUP
          have f1 : 2 * (Y : Int) = (Y2 : Int) := by omega
          have f2 : IntKind.u64.wrap (Y2 : Int) = (Y2 : Int) := by rw [IntKind.wrap_u64]; omega
          have f3 : (g : Int) - 1 = (g2 : Int) := by omega
          have f4 : IntKind.i64.wrap (g2 : Int) = (g2 : Int) := IntWalk.i64_in _ ⟨by omega, by omega⟩
          have k1 : g2 ≤ k - 1 + 1 := by omega
          have k2 : g2 ≤ 100001 := by omega
          have k3 : Y2 < 72057594037927936 := by omega
          have k4 : 0 < Y2 := by omega
          have k5 : 1 ≤ g2 := by omega
          have k6 : g2 < g := by omega
          clear hup hY2 hg2
          go_wp2
          go_roundw
          case rel => exact ⟨k - 1, Y2, g2, rfl, rfl, HUP.out, k1, k2, k3, k4, k5, trivial⟩
          case measure => simpa [intOf] using k6
        · have HSP : Hid (roundN X e = roundEnd Y g) := Lib.hid (by rw [HRN.out, ← hup, upN_stop k Y g hs])
          clear HRN hup
          obtain ⟨M, hM⟩ : ∃ M, M = Y / 8 := ⟨_, rfl⟩
          obtain ⟨r, hr⟩ : ∃ r, r = Y % 8 := ⟨_, rfl⟩
          have hMr : Y = 8 * M + r := by omega
          have hr8 : r < 8 := by omega
          have m1 : (Y : Int) % 8 = (r : Int) := by omega
          have m2 : (Y : Int) / 8 = (M : Int) := by omega
          by_cases hs1 : Y < 36028797018963968
          · as_aux_lemma =>
            have hg1e : g ≤ 1 := by omega
            have s1 : decide ((Y : Int) < 36028797018963968) = true := decide_eq_true (by omega)
            have s2 : decide ((1 : Int) < (g : Int)) = false := decide_eq_false (by omega)
            clear hs
            obtain ⟨g1, hg1⟩ : ∃ g1, g1 = g + 1 := ⟨_, rfl⟩
            by_cases hx1 : 4 < r
            · skip
              have a1 : decide ((4 : Int) < (r : Int)) = true := decide_eq_true (by omega)
              obtain ⟨M1, hM1⟩ : ∃ M1, M1 = M + 1 := ⟨_, rfl⟩
              have b1 : (M : Int) + 1 = (M1 : Int) := by omega
              have b2 : IntKind.u64.wrap (M1 : Int) = (M1 : Int) := by rw [IntKind.wrap_u64]; omega
              have HM : Hid (Y / 8 + (if 4 < Y % 8 ∨ (Y % 8 = 4 ∧ Y / 8 % 2 = 1) then 1 else 0) = M1) := Lib.hid (by rw [if_pos (by omega), hM1]; omega)
              have hM1l : M1 ≤ 9007199254740992 := by omega
              have HG := Lib.hid hg1
              by_cases hc : 9007199254740992 ≤ M1
              · exfalso; omega
              · have c1 : decide ((9007199254740992 : Int) ≤ (M1 : Int)) = false := decide_eq_false (by omega)
                by_cases hg : g < 2047
                · have d1 : decide ((g : Int) < 2047) = true := decide_eq_true (by omega)
                  by_cases hh : 4503599627370496 ≤ M1
                  · have d2 : decide ((4503599627370496 : Int) ≤ (M1 : Int)) = true := decide_eq_true (by omega)
                    obtain ⟨P, hP⟩ : ∃ P, P = g * 4503599627370496 := ⟨_, rfl⟩
                    have p1 : (g : Int) * 4503599627370496 = (P : Int) := by omega
                    have p2 : IntKind.u64.wrap (g : Int) = (g : Int) := by rw [IntKind.wrap_u64]; omega
                    have p3 : IntKind.u64.wrap (P : Int) = (P : Int) := by rw [IntKind.wrap_u64]; omega
                    obtain ⟨Q, hQ⟩ : ∃ Q, Q = M1 - 4503599627370496 := ⟨_, rfl⟩
                    have p4 : (M1 : Int) - 4503599627370496 = (Q : Int) := by omega
                    have p5 : IntKind.u64.wrap (Q : Int) = (Q : Int) := by rw [IntKind.wrap_u64]; omega
                    obtain ⟨T, hT⟩ : ∃ T, T = Q + P := ⟨_, rfl⟩
                    have p6 : (Q : Int) + (P : Int) = (T : Int) := by omega
                    have p7 : IntKind.u64.wrap (T : Int) = (T : Int) := by rw [IntKind.wrap_u64]; omega
                    have HV : Hid (roundEnd Y g = T) := Lib.hid (by unfold roundEnd; simp only [HM.out]; rw [if_neg hc, if_neg hc, if_pos hg, if_pos hh]; omega)
                    have hTl : T ≤ 9218868437227405312 := by omega
                    clear hP hQ hT
                    have r0 : T ≤ 9218868437227405312 := by omega
                    clear hg1 hM hr hMr
                    try clear hM1
                    cases neg with
                    | true =>
                      obtain ⟨R9, hR9⟩ : ∃ R9, R9 = 9223372036854775808 + T := ⟨_, rfl⟩
                      have r1 : (T : Int) + 9223372036854775808 = (R9 : Int) := by omega
                      have r2 : IntKind.u64.wrap (R9 : Int) = (R9 : Int) := by rw [IntKind.wrap_u64]; omega
                      have HF : Hid (floatN true (roundEnd Y g) = R9) := Lib.hid (by rw [HV.out, hR9]; rfl)
                      clear hR9
                      go_wp2
                      go_ret
                      exact ⟨by rw [HSP.out, HF.out]; rfl, rfl⟩
                    | false =>
                      have HF : Hid (floatN false (roundEnd Y g) = T) := Lib.hid (by rw [HV.out]; rfl)
                      go_wp2
                      go_ret
                      exact ⟨by rw [HSP.out, HF.out]; rfl, rfl⟩
                  · have d2 : decide ((4503599627370496 : Int) ≤ (M1 : Int)) = false := decide_eq_false (by omega)
                    have HV : Hid (roundEnd Y g = M1) := Lib.hid (by unfold roundEnd; simp only [HM.out]; rw [if_neg hc, if_neg hc, if_pos hg, if_neg hh])
                    have r0 : M1 ≤ 9218868437227405312 := by omega
                    clear hg1 hM hr hMr
                    try clear hM1
                    cases neg with
                    | true =>
                      obtain ⟨R9, hR9⟩ : ∃ R9, R9 = 9223372036854775808 + M1 := ⟨_, rfl⟩
                      have r1 : (M1 : Int) + 9223372036854775808 = (R9 : Int) := by omega
                      have r2 : IntKind.u64.wrap (R9 : Int) = (R9 : Int) := by rw [IntKind.wrap_u64]; omega
                      have HF : Hid (floatN true (roundEnd Y g) = R9) := Lib.hid (by rw [HV.out, hR9]; rfl)
                      clear hR9
                      go_wp2
                      go_ret
                      exact ⟨by rw [HSP.out, HF.out]; rfl, rfl⟩
                    | false =>
                      have HF : Hid (floatN false (roundEnd Y g) = M1) := Lib.hid (by rw [HV.out]; rfl)
                      go_wp2
                      go_ret
                      exact ⟨by rw [HSP.out, HF.out]; rfl, rfl⟩
                · exfalso; omega
            by_cases hx3 : r = 4 ∧ M % 2 = 1
            · skip
              have a1 : decide ((4 : Int) < (r : Int)) = false := decide_eq_false (by omega)
              have a2 : ((r : Int) == 4) = true := beq_iff_eq.2 (by omega)
              have a3 : ((M : Int) % 2 == 1) = true := beq_iff_eq.2 (by omega)
              obtain ⟨M1, hM1⟩ : ∃ M1, M1 = M + 1 := ⟨_, rfl⟩
              have b1 : (M : Int) + 1 = (M1 : Int) := by omega
              have b2 : IntKind.u64.wrap (M1 : Int) = (M1 : Int) := by rw [IntKind.wrap_u64]; omega
              have HM : Hid (Y / 8 + (if 4 < Y % 8 ∨ (Y % 8 = 4 ∧ Y / 8 % 2 = 1) then 1 else 0) = M1) := Lib.hid (by rw [if_pos (by omega), hM1]; omega)
              have hM1l : M1 ≤ 9007199254740992 := by omega
              have HG := Lib.hid hg1
              by_cases hc : 9007199254740992 ≤ M1
              · exfalso; omega
              · have c1 : decide ((9007199254740992 : Int) ≤ (M1 : Int)) = false := decide_eq_false (by omega)
                by_cases hg : g < 2047
                · have d1 : decide ((g : Int) < 2047) = true := decide_eq_true (by omega)
                  by_cases hh : 4503599627370496 ≤ M1
                  · have d2 : decide ((4503599627370496 : Int) ≤ (M1 : Int)) = true := decide_eq_true (by omega)
                    obtain ⟨P, hP⟩ : ∃ P, P = g * 4503599627370496 := ⟨_, rfl⟩
                    have p1 : (g : Int) * 4503599627370496 = (P : Int) := by omega
                    have p2 : IntKind.u64.wrap (g : Int) = (g : Int) := by rw [IntKind.wrap_u64]; omega
                    have p3 : IntKind.u64.wrap (P : Int) = (P : Int) := by rw [IntKind.wrap_u64]; omega
                    obtain ⟨Q, hQ⟩ : ∃ Q, Q = M1 - 4503599627370496 := ⟨_, rfl⟩
                    have p4 : (M1 : Int) - 4503599627370496 = (Q : Int) := by omega
                    have p5 : IntKind.u64.wrap (Q : Int) = (Q : Int) := by rw [IntKind.wrap_u64]; omega
                    obtain ⟨T, hT⟩ : ∃ T, T = Q + P := ⟨_, rfl⟩
                    have p6 : (Q : Int) + (P : Int) = (T : Int) := by omega
                    have p7 : IntKind.u64.wrap (T : Int) = (T : Int) := by rw [IntKind.wrap_u64]; omega
                    have HV : Hid (roundEnd Y g = T) := Lib.hid (by unfold roundEnd; simp only [HM.out]; rw [if_neg hc, if_neg hc, if_pos hg, if_pos hh]; omega)
                    have hTl : T ≤ 9218868437227405312 := by omega
                    clear hP hQ hT
                    have r0 : T ≤ 9218868437227405312 := by omega
                    clear hg1 hM hr hMr
                    try clear hM1
                    cases neg with
                    | true =>
                      obtain ⟨R9, hR9⟩ : ∃ R9, R9 = 9223372036854775808 + T := ⟨_, rfl⟩
                      have r1 : (T : Int) + 9223372036854775808 = (R9 : Int) := by omega
                      have r2 : IntKind.u64.wrap (R9 : Int) = (R9 : Int) := by rw [IntKind.wrap_u64]; omega
                      have HF : Hid (floatN true (roundEnd Y g) = R9) := Lib.hid (by rw [HV.out, hR9]; rfl)
                      clear hR9
                      go_wp2
                      go_ret
                      exact ⟨by rw [HSP.out, HF.out]; rfl, rfl⟩
                    | false =>
                      have HF : Hid (floatN false (roundEnd Y g) = T) := Lib.hid (by rw [HV.out]; rfl)
                      go_wp2
                      go_ret
                      exact ⟨by rw [HSP.out, HF.out]; rfl, rfl⟩
                  · have d2 : decide ((4503599627370496 : Int) ≤ (M1 : Int)) = false := decide_eq_false (by omega)
                    have HV : Hid (roundEnd Y g = M1) := Lib.hid (by unfold roundEnd; simp only [HM.out]; rw [if_neg hc, if_neg hc, if_pos hg, if_neg hh])
                    have r0 : M1 ≤ 9218868437227405312 := by omega
                    clear hg1 hM hr hMr
                    try clear hM1
                    cases neg with
                    | true =>
                      obtain ⟨R9, hR9⟩ : ∃ R9, R9 = 9223372036854775808 + M1 := ⟨_, rfl⟩
                      have r1 : (M1 : Int) + 9223372036854775808 = (R9 : Int) := by omega
                      have r2 : IntKind.u64.wrap (R9 : Int) = (R9 : Int) := by rw [IntKind.wrap_u64]; omega
                      have HF : Hid (floatN true (roundEnd Y g) = R9) := Lib.hid (by rw [HV.out, hR9]; rfl)
                      clear hR9
                      go_wp2
                      go_ret
                      exact ⟨by rw [HSP.out, HF.out]; rfl, rfl⟩
                    | false =>
                      have HF : Hid (floatN false (roundEnd Y g) = M1) := Lib.hid (by rw [HV.out]; rfl)
                      go_wp2
                      go_ret
                      exact ⟨by rw [HSP.out, HF.out]; rfl, rfl⟩
                · exfalso; omega
            by_cases hx8 : r = 4
            · skip
              have a1 : decide ((4 : Int) < (r : Int)) = false := decide_eq_false (by omega)
              have a2 : ((r : Int) == 4) = true := beq_iff_eq.2 (by omega)
              have a3 : ((M : Int) % 2 == 1) = false := beq_eq_false_iff_ne.2 (by omega)
              have HM : Hid (Y / 8 + (if 4 < Y % 8 ∨ (Y % 8 = 4 ∧ Y / 8 % 2 = 1) then 1 else 0) = M) := Lib.hid (by rw [if_neg (by omega)]; omega)
              have HG := Lib.hid hg1
              by_cases hc : 9007199254740992 ≤ M
              · exfalso; omega
              · have c1 : decide ((9007199254740992 : Int) ≤ (M : Int)) = false := decide_eq_false (by omega)
                by_cases hg : g < 2047
                · have d1 : decide ((g : Int) < 2047) = true := decide_eq_true (by omega)
                  by_cases hh : 4503599627370496 ≤ M
                  · have d2 : decide ((4503599627370496 : Int) ≤ (M : Int)) = true := decide_eq_true (by omega)
                    obtain ⟨P, hP⟩ : ∃ P, P = g * 4503599627370496 := ⟨_, rfl⟩
                    have p1 : (g : Int) * 4503599627370496 = (P : Int) := by omega
                    have p2 : IntKind.u64.wrap (g : Int) = (g : Int) := by rw [IntKind.wrap_u64]; omega
                    have p3 : IntKind.u64.wrap (P : Int) = (P : Int) := by rw [IntKind.wrap_u64]; omega
                    obtain ⟨Q, hQ⟩ : ∃ Q, Q = M - 4503599627370496 := ⟨_, rfl⟩
                    have p4 : (M : Int) - 4503599627370496 = (Q : Int) := by omega
                    have p5 : IntKind.u64.wrap (Q : Int) = (Q : Int) := by rw [IntKind.wrap_u64]; omega
                    obtain ⟨T, hT⟩ : ∃ T, T = Q + P := ⟨_, rfl⟩
                    have p6 : (Q : Int) + (P : Int) = (T : Int) := by omega
                    have p7 : IntKind.u64.wrap (T : Int) = (T : Int) := by rw [IntKind.wrap_u64]; omega
                    have HV : Hid (roundEnd Y g = T) := Lib.hid (by unfold roundEnd; simp only [HM.out]; rw [if_neg hc, if_neg hc, if_pos hg, if_pos hh]; omega)
                    have hTl : T ≤ 9218868437227405312 := by omega
                    clear hP hQ hT
                    have r0 : T ≤ 9218868437227405312 := by omega
                    clear hg1 hM hr hMr
                    try clear hM1
                    cases neg with
                    | true =>
                      obtain ⟨R9, hR9⟩ : ∃ R9, R9 = 9223372036854775808 + T := ⟨_, rfl⟩
                      have r1 : (T : Int) + 9223372036854775808 = (R9 : Int) := by omega
                      have r2 : IntKind.u64.wrap (R9 : Int) = (R9 : Int) := by rw [IntKind.wrap_u64]; omega
                      have HF : Hid (floatN true (roundEnd Y g) = R9) := Lib.hid (by rw [HV.out, hR9]; rfl)
                      clear hR9
                      go_wp2
                      go_ret
                      exact ⟨by rw [HSP.out, HF.out]; rfl, rfl⟩
                    | false =>
                      have HF : Hid (floatN false (roundEnd Y g) = T) := Lib.hid (by rw [HV.out]; rfl)
                      go_wp2
                      go_ret
                      exact ⟨by rw [HSP.out, HF.out]; rfl, rfl⟩
                  · have d2 : decide ((4503599627370496 : Int) ≤ (M : Int)) = false := decide_eq_false (by omega)
                    have HV : Hid (roundEnd Y g = M) := Lib.hid (by unfold roundEnd; simp only [HM.out]; rw [if_neg hc, if_neg hc, if_pos hg, if_neg hh])
                    have r0 : M ≤ 9218868437227405312 := by omega
                    clear hg1 hM hr hMr
                    try clear hM1
                    cases neg with
                    | true =>
                      obtain ⟨R9, hR9⟩ : ∃ R9, R9 = 9223372036854775808 + M := ⟨_, rfl⟩
                      have r1 : (M : Int) + 9223372036854775808 = (R9 : Int) := by omega
                      have r2 : IntKind.u64.wrap (R9 : Int) = (R9 : Int) := by rw [IntKind.wrap_u64]; omega
                      have HF : Hid (floatN true (roundEnd Y g) = R9) := Lib.hid (by rw [HV.out, hR9]; rfl)
                      clear hR9
                      go_wp2
                      go_ret
                      exact ⟨by rw [HSP.out, HF.out]; rfl, rfl⟩
                    | false =>
                      have HF : Hid (floatN false (roundEnd Y g) = M) := Lib.hid (by rw [HV.out]; rfl)
                      go_wp2
                      go_ret
                      exact ⟨by rw [HSP.out, HF.out]; rfl, rfl⟩
                · exfalso; omega
            have a1 : decide ((4 : Int) < (r : Int)) = false := decide_eq_false (by omega)
            have a2 : ((r : Int) == 4) = false := beq_eq_false_iff_ne.2 (by omega)
            have HM : Hid (Y / 8 + (if 4 < Y % 8 ∨ (Y % 8 = 4 ∧ Y / 8 % 2 = 1) then 1 else 0) = M) := Lib.hid (by rw [if_neg (by omega)]; omega)
            have HG := Lib.hid hg1
            by_cases hc : 9007199254740992 ≤ M
            · exfalso; omega
            · have c1 : decide ((9007199254740992 : Int) ≤ (M : Int)) = false := decide_eq_false (by omega)
              by_cases hg : g < 2047
              · have d1 : decide ((g : Int) < 2047) = true := decide_eq_true (by omega)
                by_cases hh : 4503599627370496 ≤ M
                · have d2 : decide ((4503599627370496 : Int) ≤ (M : Int)) = true := decide_eq_true (by omega)
                  obtain ⟨P, hP⟩ : ∃ P, P = g * 4503599627370496 := ⟨_, rfl⟩
                  have p1 : (g : Int) * 4503599627370496 = (P : Int) := by omega
                  have p2 : IntKind.u64.wrap (g : Int) = (g : Int) := by rw [IntKind.wrap_u64]; omega
                  have p3 : IntKind.u64.wrap (P : Int) = (P : Int) := by rw [IntKind.wrap_u64]; omega
                  obtain ⟨Q, hQ⟩ : ∃ Q, Q = M - 4503599627370496 := ⟨_, rfl⟩
                  have p4 : (M : Int) - 4503599627370496 = (Q : Int) := by omega
                  have p5 : IntKind.u64.wrap (Q : Int) = (Q : Int) := by rw [IntKind.wrap_u64]; omega
                  obtain ⟨T, hT⟩ : ∃ T, T = Q + P := ⟨_, rfl⟩
                  have p6 : (Q : Int) + (P : Int) = (T : Int) := by omega
                  have p7 : IntKind.u64.wrap (T : Int) = (T : Int) := by rw [IntKind.wrap_u64]; omega
                  have HV : Hid (roundEnd Y g = T) := Lib.hid (by unfold roundEnd; simp only [HM.out]; rw [if_neg hc, if_neg hc, if_pos hg, if_pos hh]; omega)
                  have hTl : T ≤ 9218868437227405312 := by omega
                  clear hP hQ hT
                  have r0 : T ≤ 9218868437227405312 := by omega
                  clear hg1 hM hr hMr
                  try clear hM1
                  cases neg with
                  | true =>
                    obtain ⟨R9, hR9⟩ : ∃ R9, R9 = 9223372036854775808 + T := ⟨_, rfl⟩
                    have r1 : (T : Int) + 9223372036854775808 = (R9 : Int) := by omega
                    have r2 : IntKind.u64.wrap (R9 : Int) = (R9 : Int) := by rw [IntKind.wrap_u64]; omega
                    have HF : Hid (floatN true (roundEnd Y g) = R9) := Lib.hid (by rw [HV.out, hR9]; rfl)
                    clear hR9
                    go_wp2
                    go_ret
                    exact ⟨by rw [HSP.out, HF.out]; rfl, rfl⟩
                  | false =>
                    have HF : Hid (floatN false (roundEnd Y g) = T) := Lib.hid (by rw [HV.out]; rfl)
                    go_wp2
                    go_ret
                    exact ⟨by rw [HSP.out, HF.out]; rfl, rfl⟩
                · have d2 : decide ((4503599627370496 : Int) ≤ (M : Int)) = false := decide_eq_false (by omega)
                  have HV : Hid (roundEnd Y g = M) := Lib.hid (by unfold roundEnd; simp only [HM.out]; rw [if_neg hc, if_neg hc, if_pos hg, if_neg hh])
                  have r0 : M ≤ 9218868437227405312 := by omega
                  clear hg1 hM hr hMr
                  try clear hM1
                  cases neg with
                  | true =>
                    obtain ⟨R9, hR9⟩ : ∃ R9, R9 = 9223372036854775808 + M := ⟨_, rfl⟩
                    have r1 : (M : Int) + 9223372036854775808 = (R9 : Int) := by omega
                    have r2 : IntKind.u64.wrap (R9 : Int) = (R9 : Int) := by rw [IntKind.wrap_u64]; omega
                    have HF : Hid (floatN true (roundEnd Y g) = R9) := Lib.hid (by rw [HV.out, hR9]; rfl)
                    clear hR9
                    go_wp2
                    go_ret
                    exact ⟨by rw [HSP.out, HF.out]; rfl, rfl⟩
                  | false =>
                    have HF : Hid (floatN false (roundEnd Y g) = M) := Lib.hid (by rw [HV.out]; rfl)
                    go_wp2
                    go_ret
                    exact ⟨by rw [HSP.out, HF.out]; rfl, rfl⟩
              · exfalso; omega
          · as_aux_lemma =>
            have s1 : decide ((Y : Int) < 36028797018963968) = false := decide_eq_false (by omega)
            clear hs
            obtain ⟨g1, hg1⟩ : ∃ g1, g1 = g + 1 := ⟨_, rfl⟩
            by_cases hx1 : 4 < r
            · skip
              have a1 : decide ((4 : Int) < (r : Int)) = true := decide_eq_true (by omega)
              obtain ⟨M1, hM1⟩ : ∃ M1, M1 = M + 1 := ⟨_, rfl⟩
              have b1 : (M : Int) + 1 = (M1 : Int) := by omega
              have b2 : IntKind.u64.wrap (M1 : Int) = (M1 : Int) := by rw [IntKind.wrap_u64]; omega
              have HM : Hid (Y / 8 + (if 4 < Y % 8 ∨ (Y % 8 = 4 ∧ Y / 8 % 2 = 1) then 1 else 0) = M1) := Lib.hid (by rw [if_pos (by omega), hM1]; omega)
              have hM1l : M1 ≤ 9007199254740992 := by omega
              have HG := Lib.hid hg1
              by_cases hc : 9007199254740992 ≤ M1
              · have c1 : decide ((9007199254740992 : Int) ≤ (M1 : Int)) = true := decide_eq_true (by omega)
                have c0 : M1 = 9007199254740992 := by omega
                try clear hM1
                subst c0
                have c3 : (g : Int) + 1 = (g1 : Int) := by omega
                have c4 : IntKind.i64.wrap (g1 : Int) = (g1 : Int) := IntWalk.i64_in _ ⟨by omega, by omega⟩
                by_cases hg : g1 < 2047
                · have d1 : decide ((g1 : Int) < 2047) = true := decide_eq_true (by omega)
                  obtain ⟨P, hP⟩ : ∃ P, P = g1 * 4503599627370496 := ⟨_, rfl⟩
                  have p1 : (g1 : Int) * 4503599627370496 = (P : Int) := by omega
                  have p2 : IntKind.u64.wrap (g1 : Int) = (g1 : Int) := by rw [IntKind.wrap_u64]; omega
                  have p3 : IntKind.u64.wrap (P : Int) = (P : Int) := by rw [IntKind.wrap_u64]; omega
                  have HV : Hid (roundEnd Y g = P) := Lib.hid (by unfold roundEnd; simp only [HM.out, if_pos (Nat.le_refl 9007199254740992)]; rw [if_pos (by omega), if_pos (by omega)]; omega)
                  have hPl : P ≤ 9218868437227405312 := by omega
                  clear hP hc
                  have r0 : P ≤ 9218868437227405312 := by omega
                  clear hg1 hM hr hMr
                  try clear hM1
                  cases neg with
                  | true =>
                    obtain ⟨R9, hR9⟩ : ∃ R9, R9 = 9223372036854775808 + P := ⟨_, rfl⟩
                    have r1 : (P : Int) + 9223372036854775808 = (R9 : Int) := by omega
                    have r2 : IntKind.u64.wrap (R9 : Int) = (R9 : Int) := by rw [IntKind.wrap_u64]; omega
                    have HF : Hid (floatN true (roundEnd Y g) = R9) := Lib.hid (by rw [HV.out, hR9]; rfl)
                    clear hR9
                    go_wp2
                    go_ret
                    exact ⟨by rw [HSP.out, HF.out]; rfl, rfl⟩
                  | false =>
                    have HF : Hid (floatN false (roundEnd Y g) = P) := Lib.hid (by rw [HV.out]; rfl)
                    go_wp2
                    go_ret
                    exact ⟨by rw [HSP.out, HF.out]; rfl, rfl⟩
                · have d1 : decide ((g1 : Int) < 2047) = false := decide_eq_false (by omega)
                  obtain ⟨P, hP⟩ : ∃ P, P = 9218868437227405312 := ⟨_, rfl⟩
                  have HV : Hid (roundEnd Y g = 9218868437227405312) := Lib.hid (by unfold roundEnd; simp only [HM.out, if_pos (Nat.le_refl 9007199254740992)]; rw [if_neg (by omega)])
                  clear hP hc
                  have r0 : 9218868437227405312 ≤ 9218868437227405312 := by omega
                  clear hg1 hM hr hMr
                  try clear hM1
                  cases neg with
                  | true =>
                    obtain ⟨R9, hR9⟩ : ∃ R9, R9 = 9223372036854775808 + 9218868437227405312 := ⟨_, rfl⟩
                    have r1 : (9218868437227405312 : Int) + 9223372036854775808 = (R9 : Int) := by omega
                    have r2 : IntKind.u64.wrap (R9 : Int) = (R9 : Int) := by rw [IntKind.wrap_u64]; omega
                    have HF : Hid (floatN true (roundEnd Y g) = R9) := Lib.hid (by rw [HV.out, hR9]; rfl)
                    clear hR9
                    go_wp2
                    go_ret
                    exact ⟨by rw [HSP.out, HF.out]; rfl, rfl⟩
                  | false =>
                    have HF : Hid (floatN false (roundEnd Y g) = 9218868437227405312) := Lib.hid (by rw [HV.out]; rfl)
                    go_wp2
                    go_ret
                    exact ⟨by rw [HSP.out, HF.out]; rfl, rfl⟩
              · have c1 : decide ((9007199254740992 : Int) ≤ (M1 : Int)) = false := decide_eq_false (by omega)
                by_cases hg : g < 2047
                · have d1 : decide ((g : Int) < 2047) = true := decide_eq_true (by omega)
                  by_cases hh : 4503599627370496 ≤ M1
                  · have d2 : decide ((4503599627370496 : Int) ≤ (M1 : Int)) = true := decide_eq_true (by omega)
                    obtain ⟨P, hP⟩ : ∃ P, P = g * 4503599627370496 := ⟨_, rfl⟩
                    have p1 : (g : Int) * 4503599627370496 = (P : Int) := by omega
                    have p2 : IntKind.u64.wrap (g : Int) = (g : Int) := by rw [IntKind.wrap_u64]; omega
                    have p3 : IntKind.u64.wrap (P : Int) = (P : Int) := by rw [IntKind.wrap_u64]; omega
                    obtain ⟨Q, hQ⟩ : ∃ Q, Q = M1 - 4503599627370496 := ⟨_, rfl⟩
                    have p4 : (M1 : Int) - 4503599627370496 = (Q : Int) := by omega
                    have p5 : IntKind.u64.wrap (Q : Int) = (Q : Int) := by rw [IntKind.wrap_u64]; omega
                    obtain ⟨T, hT⟩ : ∃ T, T = Q + P := ⟨_, rfl⟩
                    have p6 : (Q : Int) + (P : Int) = (T : Int) := by omega
                    have p7 : IntKind.u64.wrap (T : Int) = (T : Int) := by rw [IntKind.wrap_u64]; omega
                    have HV : Hid (roundEnd Y g = T) := Lib.hid (by unfold roundEnd; simp only [HM.out]; rw [if_neg hc, if_neg hc, if_pos hg, if_pos hh]; omega)
                    have hTl : T ≤ 9218868437227405312 := by omega
                    clear hP hQ hT
                    have r0 : T ≤ 9218868437227405312 := by omega
                    clear hg1 hM hr hMr
                    try clear hM1
                    cases neg with
                    | true =>
                      obtain ⟨R9, hR9⟩ : ∃ R9, R9 = 9223372036854775808 + T := ⟨_, rfl⟩
                      have r1 : (T : Int) + 9223372036854775808 = (R9 : Int) := by omega
                      have r2 : IntKind.u64.wrap (R9 : Int) = (R9 : Int) := by rw [IntKind.wrap_u64]; omega
                      have HF : Hid (floatN true (roundEnd Y g) = R9) := Lib.hid (by rw [HV.out, hR9]; rfl)
                      clear hR9
                      go_wp2
                      go_ret
                      exact ⟨by rw [HSP.out, HF.out]; rfl, rfl⟩
                    | false =>
                      have HF : Hid (floatN false (roundEnd Y g) = T) := Lib.hid (by rw [HV.out]; rfl)
                      go_wp2
                      go_ret
                      exact ⟨by rw [HSP.out, HF.out]; rfl, rfl⟩
                  · exfalso; omega
                · have d1 : decide ((g : Int) < 2047) = false := decide_eq_false (by omega)
                  have HV : Hid (roundEnd Y g = 9218868437227405312) := Lib.hid (by unfold roundEnd; simp only [HM.out]; rw [if_neg hc, if_neg hg])
                  have r0 : 9218868437227405312 ≤ 9218868437227405312 := by omega
                  clear hg1 hM hr hMr
                  try clear hM1
                  cases neg with
                  | true =>
                    obtain ⟨R9, hR9⟩ : ∃ R9, R9 = 9223372036854775808 + 9218868437227405312 := ⟨_, rfl⟩
                    have r1 : (9218868437227405312 : Int) + 9223372036854775808 = (R9 : Int) := by omega
                    have r2 : IntKind.u64.wrap (R9 : Int) = (R9 : Int) := by rw [IntKind.wrap_u64]; omega
                    have HF : Hid (floatN true (roundEnd Y g) = R9) := Lib.hid (by rw [HV.out, hR9]; rfl)
                    clear hR9
                    go_wp2
                    go_ret
                    exact ⟨by rw [HSP.out, HF.out]; rfl, rfl⟩
                  | false =>
                    have HF : Hid (floatN false (roundEnd Y g) = 9218868437227405312) := Lib.hid (by rw [HV.out]; rfl)
                    go_wp2
                    go_ret
                    exact ⟨by rw [HSP.out, HF.out]; rfl, rfl⟩
            by_cases hx3 : r = 4 ∧ M % 2 = 1
            · skip
              have a1 : decide ((4 : Int) < (r : Int)) = false := decide_eq_false (by omega)
              have a2 : ((r : Int) == 4) = true := beq_iff_eq.2 (by omega)
              have a3 : ((M : Int) % 2 == 1) = true := beq_iff_eq.2 (by omega)
              obtain ⟨M1, hM1⟩ : ∃ M1, M1 = M + 1 := ⟨_, rfl⟩
              have b1 : (M : Int) + 1 = (M1 : Int) := by omega
              have b2 : IntKind.u64.wrap (M1 : Int) = (M1 : Int) := by rw [IntKind.wrap_u64]; omega
              have HM : Hid (Y / 8 + (if 4 < Y % 8 ∨ (Y % 8 = 4 ∧ Y / 8 % 2 = 1) then 1 else 0) = M1) := Lib.hid (by rw [if_pos (by omega), hM1]; omega)
              have hM1l : M1 ≤ 9007199254740992 := by omega
              have HG := Lib.hid hg1
              by_cases hc : 9007199254740992 ≤ M1
              · have c1 : decide ((9007199254740992 : Int) ≤ (M1 : Int)) = true := decide_eq_true (by omega)
                have c0 : M1 = 9007199254740992 := by omega
                try clear hM1
                subst c0
                have c3 : (g : Int) + 1 = (g1 : Int) := by omega
                have c4 : IntKind.i64.wrap (g1 : Int) = (g1 : Int) := IntWalk.i64_in _ ⟨by omega, by omega⟩
                by_cases hg : g1 < 2047
                · have d1 : decide ((g1 : Int) < 2047) = true := decide_eq_true (by omega)
                  obtain ⟨P, hP⟩ : ∃ P, P = g1 * 4503599627370496 := ⟨_, rfl⟩
                  have p1 : (g1 : Int) * 4503599627370496 = (P : Int) := by omega
                  have p2 : IntKind.u64.wrap (g1 : Int) = (g1 : Int) := by rw [IntKind.wrap_u64]; omega
                  have p3 : IntKind.u64.wrap (P : Int) = (P : Int) := by rw [IntKind.wrap_u64]; omega
                  have HV : Hid (roundEnd Y g = P) := Lib.hid (by unfold roundEnd; simp only [HM.out, if_pos (Nat.le_refl 9007199254740992)]; rw [if_pos (by omega), if_pos (by omega)]; omega)
                  have hPl : P ≤ 9218868437227405312 := by omega
                  clear hP hc
                  have r0 : P ≤ 9218868437227405312 := by omega
                  clear hg1 hM hr hMr
                  try clear hM1
                  cases neg with
                  | true =>
                    obtain ⟨R9, hR9⟩ : ∃ R9, R9 = 9223372036854775808 + P := ⟨_, rfl⟩
                    have r1 : (P : Int) + 9223372036854775808 = (R9 : Int) := by omega
                    have r2 : IntKind.u64.wrap (R9 : Int) = (R9 : Int) := by rw [IntKind.wrap_u64]; omega
                    have HF : Hid (floatN true (roundEnd Y g) = R9) := Lib.hid (by rw [HV.out, hR9]; rfl)
                    clear hR9
                    go_wp2
                    go_ret
                    exact ⟨by rw [HSP.out, HF.out]; rfl, rfl⟩
                  | false =>
                    have HF : Hid (floatN false (roundEnd Y g) = P) := Lib.hid (by rw [HV.out]; rfl)
                    go_wp2
                    go_ret
                    exact ⟨by rw [HSP.out, HF.out]; rfl, rfl⟩
                · have d1 : decide ((g1 : Int) < 2047) = false := decide_eq_false (by omega)
                  obtain ⟨P, hP⟩ : ∃ P, P = 9218868437227405312 := ⟨_, rfl⟩
                  have HV : Hid (roundEnd Y g = 9218868437227405312) := Lib.hid (by unfold roundEnd; simp only [HM.out, if_pos (Nat.le_refl 9007199254740992)]; rw [if_neg (by omega)])
                  clear hP hc
                  have r0 : 9218868437227405312 ≤ 9218868437227405312 := by omega
                  clear hg1 hM hr hMr
                  try clear hM1
                  cases neg with
                  | true =>
                    obtain ⟨R9, hR9⟩ : ∃ R9, R9 = 9223372036854775808 + 9218868437227405312 := ⟨_, rfl⟩
                    have r1 : (9218868437227405312 : Int) + 9223372036854775808 = (R9 : Int) := by omega
                    have r2 : IntKind.u64.wrap (R9 : Int) = (R9 : Int) := by rw [IntKind.wrap_u64]; omega
                    have HF : Hid (floatN true (roundEnd Y g) = R9) := Lib.hid (by rw [HV.out, hR9]; rfl)
                    clear hR9
                    go_wp2
                    go_ret
                    exact ⟨by rw [HSP.out, HF.out]; rfl, rfl⟩
                  | false =>
                    have HF : Hid (floatN false (roundEnd Y g) = 9218868437227405312) := Lib.hid (by rw [HV.out]; rfl)
                    go_wp2
                    go_ret
                    exact ⟨by rw [HSP.out, HF.out]; rfl, rfl⟩
              · have c1 : decide ((9007199254740992 : Int) ≤ (M1 : Int)) = false := decide_eq_false (by omega)
                by_cases hg : g < 2047
                · have d1 : decide ((g : Int) < 2047) = true := decide_eq_true (by omega)
                  by_cases hh : 4503599627370496 ≤ M1
                  · have d2 : decide ((4503599627370496 : Int) ≤ (M1 : Int)) = true := decide_eq_true (by omega)
                    obtain ⟨P, hP⟩ : ∃ P, P = g * 4503599627370496 := ⟨_, rfl⟩
                    have p1 : (g : Int) * 4503599627370496 = (P : Int) := by omega
                    have p2 : IntKind.u64.wrap (g : Int) = (g : Int) := by rw [IntKind.wrap_u64]; omega
                    have p3 : IntKind.u64.wrap (P : Int) = (P : Int) := by rw [IntKind.wrap_u64]; omega
                    obtain ⟨Q, hQ⟩ : ∃ Q, Q = M1 - 4503599627370496 := ⟨_, rfl⟩
                    have p4 : (M1 : Int) - 4503599627370496 = (Q : Int) := by omega
                    have p5 : IntKind.u64.wrap (Q : Int) = (Q : Int) := by rw [IntKind.wrap_u64]; omega
                    obtain ⟨T, hT⟩ : ∃ T, T = Q + P := ⟨_, rfl⟩
                    have p6 : (Q : Int) + (P : Int) = (T : Int) := by omega
                    have p7 : IntKind.u64.wrap (T : Int) = (T : Int) := by rw [IntKind.wrap_u64]; omega
                    have HV : Hid (roundEnd Y g = T) := Lib.hid (by unfold roundEnd; simp only [HM.out]; rw [if_neg hc, if_neg hc, if_pos hg, if_pos hh]; omega)
                    have hTl : T ≤ 9218868437227405312 := by omega
                    clear hP hQ hT
                    have r0 : T ≤ 9218868437227405312 := by omega
                    clear hg1 hM hr hMr
                    try clear hM1
                    cases neg with
                    | true =>
                      obtain ⟨R9, hR9⟩ : ∃ R9, R9 = 9223372036854775808 + T := ⟨_, rfl⟩
                      have r1 : (T : Int) + 9223372036854775808 = (R9 : Int) := by omega
                      have r2 : IntKind.u64.wrap (R9 : Int) = (R9 : Int) := by rw [IntKind.wrap_u64]; omega
                      have HF : Hid (floatN true (roundEnd Y g) = R9) := Lib.hid (by rw [HV.out, hR9]; rfl)
                      clear hR9
                      go_wp2
                      go_ret
                      exact ⟨by rw [HSP.out, HF.out]; rfl, rfl⟩
                    | false =>
                      have HF : Hid (floatN false (roundEnd Y g) = T) := Lib.hid (by rw [HV.out]; rfl)
                      go_wp2
                      go_ret
                      exact ⟨by rw [HSP.out, HF.out]; rfl, rfl⟩
                  · exfalso; omega
                · have d1 : decide ((g : Int) < 2047) = false := decide_eq_false (by omega)
                  have HV : Hid (roundEnd Y g = 9218868437227405312) := Lib.hid (by unfold roundEnd; simp only [HM.out]; rw [if_neg hc, if_neg hg])
                  have r0 : 9218868437227405312 ≤ 9218868437227405312 := by omega
                  clear hg1 hM hr hMr
                  try clear hM1
                  cases neg with
                  | true =>
                    obtain ⟨R9, hR9⟩ : ∃ R9, R9 = 9223372036854775808 + 9218868437227405312 := ⟨_, rfl⟩
                    have r1 : (9218868437227405312 : Int) + 9223372036854775808 = (R9 : Int) := by omega
                    have r2 : IntKind.u64.wrap (R9 : Int) = (R9 : Int) := by rw [IntKind.wrap_u64]; omega
                    have HF : Hid (floatN true (roundEnd Y g) = R9) := Lib.hid (by rw [HV.out, hR9]; rfl)
                    clear hR9
                    go_wp2
                    go_ret
                    exact ⟨by rw [HSP.out, HF.out]; rfl, rfl⟩
                  | false =>
                    have HF : Hid (floatN false (roundEnd Y g) = 9218868437227405312) := Lib.hid (by rw [HV.out]; rfl)
                    go_wp2
                    go_ret
                    exact ⟨by rw [HSP.out, HF.out]; rfl, rfl⟩
            by_cases hx8 : r = 4
            · skip
              have a1 : decide ((4 : Int) < (r : Int)) = false := decide_eq_false (by omega)
              have a2 : ((r : Int) == 4) = true := beq_iff_eq.2 (by omega)
              have a3 : ((M : Int) % 2 == 1) = false := beq_eq_false_iff_ne.2 (by omega)
              have HM : Hid (Y / 8 + (if 4 < Y % 8 ∨ (Y % 8 = 4 ∧ Y / 8 % 2 = 1) then 1 else 0) = M) := Lib.hid (by rw [if_neg (by omega)]; omega)
              have HG := Lib.hid hg1
              by_cases hc : 9007199254740992 ≤ M
              · exfalso; omega
              · have c1 : decide ((9007199254740992 : Int) ≤ (M : Int)) = false := decide_eq_false (by omega)
                by_cases hg : g < 2047
                · have d1 : decide ((g : Int) < 2047) = true := decide_eq_true (by omega)
                  by_cases hh : 4503599627370496 ≤ M
                  · have d2 : decide ((4503599627370496 : Int) ≤ (M : Int)) = true := decide_eq_true (by omega)
                    obtain ⟨P, hP⟩ : ∃ P, P = g * 4503599627370496 := ⟨_, rfl⟩
                    have p1 : (g : Int) * 4503599627370496 = (P : Int) := by omega
                    have p2 : IntKind.u64.wrap (g : Int) = (g : Int) := by rw [IntKind.wrap_u64]; omega
                    have p3 : IntKind.u64.wrap (P : Int) = (P : Int) := by rw [IntKind.wrap_u64]; omega
                    obtain ⟨Q, hQ⟩ : ∃ Q, Q = M - 4503599627370496 := ⟨_, rfl⟩
                    have p4 : (M : Int) - 4503599627370496 = (Q : Int) := by omega
                    have p5 : IntKind.u64.wrap (Q : Int) = (Q : Int) := by rw [IntKind.wrap_u64]; omega
                    obtain ⟨T, hT⟩ : ∃ T, T = Q + P := ⟨_, rfl⟩
                    have p6 : (Q : Int) + (P : Int) = (T : Int) := by omega
                    have p7 : IntKind.u64.wrap (T : Int) = (T : Int) := by rw [IntKind.wrap_u64]; omega
                    have HV : Hid (roundEnd Y g = T) := Lib.hid (by unfold roundEnd; simp only [HM.out]; rw [if_neg hc, if_neg hc, if_pos hg, if_pos hh]; omega)
                    have hTl : T ≤ 9218868437227405312 := by omega
                    clear hP hQ hT
                    have r0 : T ≤ 9218868437227405312 := by omega
                    clear hg1 hM hr hMr
                    try clear hM1
                    cases neg with
                    | true =>
                      obtain ⟨R9, hR9⟩ : ∃ R9, R9 = 9223372036854775808 + T := ⟨_, rfl⟩
                      have r1 : (T : Int) + 9223372036854775808 = (R9 : Int) := by omega
                      have r2 : IntKind.u64.wrap (R9 : Int) = (R9 : Int) := by rw [IntKind.wrap_u64]; omega
                      have HF : Hid (floatN true (roundEnd Y g) = R9) := Lib.hid (by rw [HV.out, hR9]; rfl)
                      clear hR9
                      go_wp2
                      go_ret
                      exact ⟨by rw [HSP.out, HF.out]; rfl, rfl⟩
                    | false =>
                      have HF : Hid (floatN false (roundEnd Y g) = T) := Lib.hid (by rw [HV.out]; rfl)
                      go_wp2
                      go_ret
                      exact ⟨by rw [HSP.out, HF.out]; rfl, rfl⟩
                  · exfalso; omega
                · have d1 : decide ((g : Int) < 2047) = false := decide_eq_false (by omega)
                  have HV : Hid (roundEnd Y g = 9218868437227405312) := Lib.hid (by unfold roundEnd; simp only [HM.out]; rw [if_neg hc, if_neg hg])
                  have r0 : 9218868437227405312 ≤ 9218868437227405312 := by omega
                  clear hg1 hM hr hMr
                  try clear hM1
                  cases neg with
                  | true =>
                    obtain ⟨R9, hR9⟩ : ∃ R9, R9 = 9223372036854775808 + 9218868437227405312 := ⟨_, rfl⟩
                    have r1 : (9218868437227405312 : Int) + 9223372036854775808 = (R9 : Int) := by omega
                    have r2 : IntKind.u64.wrap (R9 : Int) = (R9 : Int) := by rw [IntKind.wrap_u64]; omega
                    have HF : Hid (floatN true (roundEnd Y g) = R9) := Lib.hid (by rw [HV.out, hR9]; rfl)
                    clear hR9
                    go_wp2
                    go_ret
                    exact ⟨by rw [HSP.out, HF.out]; rfl, rfl⟩
                  | false =>
                    have HF : Hid (floatN false (roundEnd Y g) = 9218868437227405312) := Lib.hid (by rw [HV.out]; rfl)
                    go_wp2
                    go_ret
                    exact ⟨by rw [HSP.out, HF.out]; rfl, rfl⟩
            have a1 : decide ((4 : Int) < (r : Int)) = false := decide_eq_false (by omega)
            have a2 : ((r : Int) == 4) = false := beq_eq_false_iff_ne.2 (by omega)
            have HM : Hid (Y / 8 + (if 4 < Y % 8 ∨ (Y % 8 = 4 ∧ Y / 8 % 2 = 1) then 1 else 0) = M) := Lib.hid (by rw [if_neg (by omega)]; omega)
            have HG := Lib.hid hg1
            by_cases hc : 9007199254740992 ≤ M
            · exfalso; omega
            · have c1 : decide ((9007199254740992 : Int) ≤ (M : Int)) = false := decide_eq_false (by omega)
              by_cases hg : g < 2047
              · have d1 : decide ((g : Int) < 2047) = true := decide_eq_true (by omega)
                by_cases hh : 4503599627370496 ≤ M
                · have d2 : decide ((4503599627370496 : Int) ≤ (M : Int)) = true := decide_eq_true (by omega)
                  obtain ⟨P, hP⟩ : ∃ P, P = g * 4503599627370496 := ⟨_, rfl⟩
                  have p1 : (g : Int) * 4503599627370496 = (P : Int) := by omega
                  have p2 : IntKind.u64.wrap (g : Int) = (g : Int) := by rw [IntKind.wrap_u64]; omega
                  have p3 : IntKind.u64.wrap (P : Int) = (P : Int) := by rw [IntKind.wrap_u64]; omega
                  obtain ⟨Q, hQ⟩ : ∃ Q, Q = M - 4503599627370496 := ⟨_, rfl⟩
                  have p4 : (M : Int) - 4503599627370496 = (Q : Int) := by omega
                  have p5 : IntKind.u64.wrap (Q : Int) = (Q : Int) := by rw [IntKind.wrap_u64]; omega
                  obtain ⟨T, hT⟩ : ∃ T, T = Q + P := ⟨_, rfl⟩
                  have p6 : (Q : Int) + (P : Int) = (T : Int) := by omega
                  have p7 : IntKind.u64.wrap (T : Int) = (T : Int) := by rw [IntKind.wrap_u64]; omega
                  have HV : Hid (roundEnd Y g = T) := Lib.hid (by unfold roundEnd; simp only [HM.out]; rw [if_neg hc, if_neg hc, if_pos hg, if_pos hh]; omega)
                  have hTl : T ≤ 9218868437227405312 := by omega
                  clear hP hQ hT
                  have r0 : T ≤ 9218868437227405312 := by omega
                  clear hg1 hM hr hMr
                  try clear hM1
                  cases neg with
                  | true =>
                    obtain ⟨R9, hR9⟩ : ∃ R9, R9 = 9223372036854775808 + T := ⟨_, rfl⟩
                    have r1 : (T : Int) + 9223372036854775808 = (R9 : Int) := by omega
                    have r2 : IntKind.u64.wrap (R9 : Int) = (R9 : Int) := by rw [IntKind.wrap_u64]; omega
                    have HF : Hid (floatN true (roundEnd Y g) = R9) := Lib.hid (by rw [HV.out, hR9]; rfl)
                    clear hR9
                    go_wp2
                    go_ret
                    exact ⟨by rw [HSP.out, HF.out]; rfl, rfl⟩
                  | false =>
                    have HF : Hid (floatN false (roundEnd Y g) = T) := Lib.hid (by rw [HV.out]; rfl)
                    go_wp2
                    go_ret
                    exact ⟨by rw [HSP.out, HF.out]; rfl, rfl⟩
                · exfalso; omega
              · have d1 : decide ((g : Int) < 2047) = false := decide_eq_false (by omega)
                have HV : Hid (roundEnd Y g = 9218868437227405312) := Lib.hid (by unfold roundEnd; simp only [HM.out]; rw [if_neg hc, if_neg hg])
                have r0 : 9218868437227405312 ≤ 9218868437227405312 := by omega
                clear hg1 hM hr hMr
                try clear hM1
                cases neg with
                | true =>
                  obtain ⟨R9, hR9⟩ : ∃ R9, R9 = 9223372036854775808 + 9218868437227405312 := ⟨_, rfl⟩
                  have r1 : (9218868437227405312 : Int) + 9223372036854775808 = (R9 : Int) := by omega
                  have r2 : IntKind.u64.wrap (R9 : Int) = (R9 : Int) := by rw [IntKind.wrap_u64]; omega
                  have HF : Hid (floatN true (roundEnd Y g) = R9) := Lib.hid (by rw [HV.out, hR9]; rfl)
                  clear hR9
                  go_wp2
                  go_ret
                  exact ⟨by rw [HSP.out, HF.out]; rfl, rfl⟩
                | false =>
                  have HF : Hid (floatN false (roundEnd Y g) = 9218868437227405312) := Lib.hid (by rw [HV.out]; rfl)
                  go_wp2
                  go_ret
                  exact ⟨by rw [HSP.out, HF.out]; rfl, rfl⟩
end Go.Proofs.Ythdlfjpdifipkaa
