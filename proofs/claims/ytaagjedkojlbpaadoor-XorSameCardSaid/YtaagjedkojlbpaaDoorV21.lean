/- package limnographref06: GetStep. -/
import Derived.Test.YtaagjedkojlbpaaDoorV20
namespace Go.Proofs.YtaagjedkojlbpaaDoor
open Go.RowKit
attribute [local go_sem ↓] Go.wp_at_zero Go.wp_at_succ

theorem uN_cut (x S : Nat) (hx : x < 2 ^ S) (hS : S = 0 ∨ S = 6 ∨ S = 10 ∨ S = 16 ∨ S = 64) : uN (cutI x S) = if S = 0 ∨ S = 64 ∨ x < 2 ^ (S - 1) then x else x + 18446744073709551616 - 2 ^ S := by
  rcases hS with rfl | rfl | rfl | rfl | rfl
  · have : x = 0 := by simpa using hx
    subst this; rfl
  all_goals
    simp only [Nat.reducePow] at hx
    unfold cutI uN
    rw [if_neg (by omega)]
    simp only [Nat.reducePow, Nat.reduceSub]
    split <;> split <;> omega
theorem numB_two (l : List Bool) (S : Nat) : numB (l.take S) < 2 ^ S := Nat.lt_of_lt_of_le (numB_lt _) (Nat.pow_le_pow_right (by omega) (by rw [List.length_take]; omega))

set_option maxHeartbeats 4000000 in
set_option maxRecDepth 100000 in
theorem refGetStep_any (v : Value) (l : List Bool) (w : World) (hv : SlAt w v (ints l)) (hcap : ∀ a n c, v = .slice a n c → n ≤ c) (hl : l.length ≤ 100000000) :
    Calls Tryd.prog 59 #[v] w (GotV w ((uN (gotStep l).1 : Nat) : Int) (gotStep l).2.1 (gotStep l).2.2) := by
  have hlen := ints_length l
  have hv0 := Lib.hid hv
  obtain ⟨ao, cp, hval, _, _⟩ := hv.val
  rw [hlen] at hval
  subst hval
  have hcp := hcap _ _ _ rfl
  obtain ⟨iI, hiI, hzI0, hzI1, hzI2⟩ := info_parts Tryd.infoInt
  obtain ⟨w0, hw0⟩ : ∃ w0, w0 = w.alloc (.cells #[.int .u64 0, .int .i64 0, .int .i64 0] 44) := ⟨_, rfl⟩
  have K0 : Kept (fun _ => False) w w0 := by rw [hw0]; exact (Kept.refl _ w).alloc _
  have G0 : Got3 w0 w.heap.size 0 0 0 := by rw [hw0]; exact heap_alloc_new w _
  have HFIN := Lib.hid fun w2 (V : Int) (N E : Nat) (h : Kept (fun _ => False) w0 w2) => show GotV w V N E (.returned (.agg #[.int .u64 V, .int .i64 (N : Int), .int .i64 (E : Int)])) _ from ⟨rfl, three_kept (x := .int .u64 V) (y := .int .i64 (N : Int)) (z := .int .i64 (E : Int)) (K0.trans h) (Nat.le_refl _)⟩
  have HG := Lib.hid fun w2 (h : Kept (fun _ => False) w0 w2) => show Got3 w2 w.heap.size 0 0 0 from h.same G0 (fun x => x)
  have HK0 := Lib.hid K0
  have HCELL := Lib.hid fun w2 (h : Kept (fun _ => False) w0 w2) j (hj : j < l.length) => (hv.kept (K0.trans h) (fun _ _ x => x)).elem (ints_get hj)
  obtain ⟨K, S, hK, hK4, hS, hSc, hrest⟩ := gotStep_cases l
  have hones := onesK_get 4 l
  have hole := (onesK_le 4 l).2
  rw [← hK] at hones hole
  have HONES := Lib.hid hones
  have HWD := Lib.hid (refWidth_any K (by omega))
  rw [← hS] at HWD
  have HW0 := Lib.hid hw0
  have k0 : (0 : Int) ≤ (K : Int) := by omega
  have hS1 : 0 < K → K < 4 → 1 ≤ S ∧ S ≤ 16 := by
    intro h1 h2
    have : K = 1 ∨ K = 2 ∨ K = 3 := by omega
    rw [hS]; rcases this with rfl | rfl | rfl <;> simp [widthW]
  have hS04 : (K = 0 → S = 0) ∧ (K = 4 → S = 64) := by
    rw [hS]; exact ⟨by rintro rfl; rfl, by rintro rfl; rfl⟩
  clear hw0 hones hK hS K0 hv hlen hcap
  go_enter Tryd.func59, Tryd.ntmps59
  go_wp2
  rw [← HW0.out]
  go_loopg [3] 4 (fun g s3 wr => ∃ m : Nat, m ≤ K ∧ g = 4 - m ∧ s3 = .int .i64 m ∧ w0 = wr)
  case atStart => exact ⟨0, Nat.zero_le _, rfl, rfl, rfl⟩
  case round =>
    obtain ⟨m, hm, rfl, rfl, rfl⟩ := hrel
    by_cases hd : m < K
    · have m4 : (m : Int) < 4 := by omega
      have m0 : (0 : Int) ≤ (m : Int) := by omega
      have ml : (m : Int) < (l.length : Int) := by omega
      have mln : m < l.length := by omega
      obtain ⟨g, off, rfl, b0⟩ := HCELL.out w0 (Kept.refl _ _) m (by omega)
      have hb := HONES.out m hd
      rw [hb] at b0
      have b1 : w0.cell? ⟨g, off + m, none⟩ = some (.int .i64 1) := b0
      clear b0 hb G0
      go_wp2
      go_roundg (4 - (m + 1))
      case measure => omega
      case rel => exact ⟨m + 1, hd, rfl, by go_num, rfl⟩
    · obtain rfl : m = K := by omega
      clear hd hm
      rcases hrest with ⟨hK3, hlK, e⟩ | ⟨A, hA, hAl, hrest⟩
      · have HE := Lib.hid e
        have m4 : (m : Int) < 4 := by omega
        have ml : ¬ (m : Int) < (l.length : Int) := by omega
        have mln : decide (m < l.length) = false := decide_eq_false (by omega)
        have meq : ((m : Int) == (l.length : Int)) = true := by simp; omega
        obtain ⟨⟨g0, g1, g2⟩, f0, f1, f2⟩ := G0.c
        have G2 := Lib.hid G0
        clear e hlK hole hK3 hS1 hS04 G0
        go_wp2
        refine got_end (V := 0) (N := 0) (E := 2) Tryd.results59 rfl rfl (G2.out.set 0 0 2) ?_
        rw [HE.out]; exact HFIN.out _ 0 0 2 (Kept.refl _ _)
      · have hsub : IntKind.i64.wrap ((l.length : Int) - (A : Int)) = (l.length : Int) - (A : Int) := IntWalk.i64_in _ ⟨by omega, by omega⟩
        have hA0 : (0 : Int) ≤ (A : Int) := by omega
        rcases hrest with ⟨h3, e⟩ | ⟨h3, x, hx, hx64, hrest⟩
        · have HE := Lib.hid e
          have q3 : (l.length : Int) - (A : Int) < (S : Int) := by omega
          clear e h3 hS1 hS04 G0 hSc
          rcases hA with ⟨hK3, hAe, hz⟩ | ⟨hK3, hAe⟩
          · have m4 : (m : Int) < 4 := by omega
            have ml : (m : Int) < (l.length : Int) := by omega
            have mln : m < l.length := by omega
            have meq : ((m : Int) == (l.length : Int)) = false := by simp; omega
            have ma : (m : Int) + 1 = (A : Int) := by omega
            obtain ⟨g, off, rfl, b0⟩ := HCELL.out w0 (Kept.refl _ _) m (by omega)
            rw [hz] at b0
            have b1 : w0.cell? ⟨g, off + m, none⟩ = some (.int .i64 0) := b0
            clear b0 hK3 hAe hAl hole hz
            go_wp2_with (go_at_call 72; refine (HWD.out _).mono ?_; rintro e w1 ⟨rfl, hk⟩; have K1 := Lib.hid hk; have G1 := Lib.hid (HG.out _ hk); obtain ⟨⟨g0, g1, g2⟩, f0, f1, f2⟩ := G1.out.c; clear hk)
            refine got_end (V := 0) (N := 0) (E := 2) Tryd.results59 rfl rfl (G1.out.set 0 0 2) ?_
            rw [HE.out]; exact HFIN.out _ 0 0 2 K1.out
          · have m4 : ¬ (m : Int) < 4 := by omega
            have m4b : decide (m < 4) = false := decide_eq_false (by omega)
            have ma : (m : Int) = (A : Int) := by omega
            clear hAl hole
            subst hAe hK3
            go_wp2_with (go_at_call 72; refine (HWD.out _).mono ?_; rintro e w1 ⟨rfl, hk⟩; have K1 := Lib.hid hk; have G1 := Lib.hid (HG.out _ hk); obtain ⟨⟨g0, g1, g2⟩, f0, f1, f2⟩ := G1.out.c; clear hk)
            refine got_end (V := 0) (N := 0) (E := 2) Tryd.results59 rfl rfl (G1.out.set 0 0 2) ?_
            rw [HE.out]; exact HFIN.out _ 0 0 2 K1.out
        · obtain ⟨X, hX⟩ : ∃ X, X = cutI x S := ⟨_, rfl⟩
          have hXr := cutI_I64 x S hSc
          have hx2 : x < 2 ^ S := by rw [hx]; exact numB_two _ _
          have hU := uN_cut x S hx2 hSc
          have hul := uN_lt X
          have hUX := uN_i64 X
          rw [← hX] at hXr hrest hU
          obtain ⟨U, hUe⟩ : ∃ U, U = uN X := ⟨_, rfl⟩
          rw [← hUe] at hU hul hUX
          have u1 : IntKind.i64.wrap (U : Int) = X := by rw [IntWalk.i64_left]; exact hUX hXr.1 hXr.2
          have HWAY := Lib.hid (refWay_any X hXr.1 hXr.2)
          obtain ⟨C, hC⟩ : ∃ C, C = wayN X := ⟨_, rfl⟩
          rw [← hC] at HWAY hrest
          have HUE := Lib.hid hUe
          obtain ⟨T, hT⟩ : ∃ T, T = A + S := ⟨_, rfl⟩
          have hct := hv0.out.cut (lo := A) (hi := T) (by omega) (by omega) hcp
          obtain ⟨ao2, hao2⟩ : ∃ a : Option Addr, a = if cp = A then ao else ao.map (·.add A) := ⟨_, rfl⟩
          rw [← hao2] at hct
          have hTS : T - A = S := by omega
          rw [hTS] at hct
          have hbx : (ints l).drop A = ints (l.drop A) := by unfold ints; rw [List.map_drop]
          have hbx2 : (ints (l.drop A)).take S = ints ((l.drop A).take S) := by unfold ints; rw [List.map_take]
          rw [hbx, hbx2] at hct
          have HNUM := Lib.hid fun w1 (h : Kept (fun _ => False) w w1) => refNumber_any _ _ w1 (hct.kept h (fun _ _ x => x)) (by rw [List.length_take]; omega)
          simp only [← hx] at HNUM
          have s1 : ∀ w, (Instr.slice 26 (.slice ao l.length cp) (some (.int .i64 (A : Int))) (some (.int .i64 (T : Int))) none).run Tryd.prog w = .ok (.slice ao2 S (cp - A)) w := fun w => by
            have := run_cut (P := Tryd.prog) Tryd.underlying26 hiI hzI1 ao l.length cp A T (by omega) (by omega) w
            rw [← hao2, hTS] at this; exact this
          have s2 : ∀ w, (Instr.sliceAt 26 (.slice ao l.length cp) (some (.int .i64 (A : Int))) (some (.int .i64 (T : Int))) none).run Tryd.prog w = .ok (.slice ao2 S (cp - A)) w := fun w => by
            have := run_cutAt (P := Tryd.prog) Tryd.underlying26 hiI hzI1 ao l.length cp A T (by omega) (by omega) w
            rw [← hao2, hTS] at this; exact this
          have t1 : (A : Int) + (S : Int) = (T : Int) := by omega
          have t2 : IntKind.i64.wrap (T : Int) = (T : Int) := IntWalk.i64_in _ ⟨by omega, by omega⟩
          have q3 : ¬ (l.length : Int) - (A : Int) < (S : Int) := by omega
          have HT := Lib.hid hT
          have hcase : (A = m + 1 ∧ m < 4 ∧ l.getD m false = false ∧ m = 0 ∧ U = x) ∨ (A = m + 1 ∧ m < 4 ∧ l.getD m false = false ∧ 0 < m ∧ x < 2 ^ (S - 1) ∧ U = x) ∨ (A = m + 1 ∧ m < 4 ∧ l.getD m false = false ∧ 0 < m ∧ 2 ^ (S - 1) ≤ x ∧ U = x + 18446744073709551616 - 2 ^ S) ∨ (A = m ∧ m = 4 ∧ U = x) := by
            rcases hA with ⟨hK3, hAe, hz⟩ | ⟨hK3, hAe⟩
            · by_cases h0 : m = 0
              · refine .inl ⟨hAe, hK3, hz, h0, ?_⟩
                rw [hU, if_pos (.inl (hS04.1 h0))]
              · have := hS1 (by omega) hK3
                by_cases hlo : x < 2 ^ (S - 1)
                · refine .inr (.inl ⟨hAe, hK3, hz, by omega, hlo, ?_⟩)
                  rw [hU, if_pos (.inr (.inr hlo))]
                · refine .inr (.inr (.inl ⟨hAe, hK3, hz, by omega, by omega, ?_⟩))
                  rw [hU, if_neg (by omega)]
            · refine .inr (.inr (.inr ⟨by omega, hK3, ?_⟩))
              rw [hU, if_pos (.inr (.inl (hS04.2 hK3)))]
          have hS16 : 0 < m → m < 4 → 1 ≤ S ∧ S ≤ 16 := hS1
          clear hU hUX hul hXr hX hUe hC hT hct hao2 hTS hbx hbx2 hx hS04 hS1 G0 hA hSc h3
          rcases hcase with ⟨hAe, hK3, hz, hm0, hUx⟩ | ⟨hAe, hK3, hz, hm0, hlo, hUx⟩ | ⟨hAe, hK3, hz, hm0, hhi, hUx⟩ | ⟨hAe, hK3, hUx⟩
          · have m4 : (m : Int) < 4 := by omega
            have m4b : decide (m < 4) = true := decide_eq_true hK3
            have ml : (m : Int) < (l.length : Int) := by omega
            have mln : m < l.length := by omega
            have meq : ((m : Int) == (l.length : Int)) = false := by simp; omega
            have ma : (m : Int) + 1 = (A : Int) := by omega
            obtain ⟨g, off, e1, b0⟩ := HCELL.out w0 (Kept.refl _ _) m (by omega)
            subst e1
            rw [hz] at b0
            have b1 : w0.cell? ⟨g, off + m, none⟩ = some (.int .i64 0) := b0
            have z0 : ¬ (0 : Int) < (m : Int) := by omega
            have z0b : decide (0 < m) = false := decide_eq_false (by omega)
            clear hm0
            subst hUx
            rcases hrest with ⟨h4, e⟩ | ⟨h4, e⟩
            all_goals
              have HE := Lib.hid e
              first
                | have hne : ((C : Int) != (m : Int)) = false := by simp; omega
                | have hne : ((C : Int) != (m : Int)) = true := by simp; omega
              clear e h4 hAe hK3 hz b0 hAl hole hS16
              go_wp2_with (first
                | (go_at_call 72; refine (HWD.out _).mono ?_; rintro e w1 ⟨rfl, hk⟩; have K1 := Lib.hid hk; clear hk)
                | (go_at_call 52; refine (HNUM.out _ (HK0.out.trans K1.out)).mono ?_; rintro e w' ⟨rfl, rfl⟩)
                | (go_at_call 71; refine (HWAY.out _).mono ?_; rintro e w2 ⟨rfl, hk⟩; have K2 := Lib.hid (K1.out.trans hk); have G2 := Lib.hid (HG.out _ K2.out); obtain ⟨⟨g0, g1, g2⟩, f0, f1, f2⟩ := G2.out.c; clear hk))
            · refine got_end (V := 0) (N := 0) (E := 3) Tryd.results59 rfl rfl (G2.out.set 0 0 3) ?_
              rw [HE.out]; exact HFIN.out _ 0 0 3 K2.out
            · refine got_end (V := (U : Int)) (N := (T : Int)) (E := 0) Tryd.results59 rfl rfl (G2.out.set U T 0) ?_
              rw [HE.out, ← HT.out, ← HUE.out]; exact HFIN.out _ U T 0 K2.out
          · have m4 : (m : Int) < 4 := by omega
            have m4b : decide (m < 4) = true := decide_eq_true hK3
            have ml : (m : Int) < (l.length : Int) := by omega
            have mln : m < l.length := by omega
            have meq : ((m : Int) == (l.length : Int)) = false := by simp; omega
            have ma : (m : Int) + 1 = (A : Int) := by omega
            obtain ⟨g, off, e1, b0⟩ := HCELL.out w0 (Kept.refl _ _) m (by omega)
            subst e1
            rw [hz] at b0
            have b1 : w0.cell? ⟨g, off + m, none⟩ = some (.int .i64 0) := b0
            have z0 : (0 : Int) < (m : Int) := by omega
            have z0b : decide (0 < m) = true := decide_eq_true hm0
            obtain ⟨hs1, hs16⟩ := hS16 hm0 hK3
            obtain ⟨S1, hS1e⟩ : ∃ S1, S1 = S - 1 := ⟨_, rfl⟩
            have s1w : IntKind.i64.wrap ((S : Int) - 1) = (S1 : Int) := by rw [IntWalk.i64_in _ ⟨by omega, by omega⟩]; omega
            have HP1 := Lib.hid (refPower_any S1 (by omega))
            rw [← hS1e] at hlo
            obtain ⟨P1, hP1⟩ : ∃ P1, P1 = 2 ^ S1 := ⟨_, rfl⟩
            rw [← hP1] at HP1 hlo
            have qp : ¬ (P1 : Int) ≤ (U : Int) := by omega
            have qpb : decide (P1 ≤ U) = false := decide_eq_false (by omega)
            subst hUx
            clear hS16 hs1 hS1e hP1
            rcases hrest with ⟨h4, e⟩ | ⟨h4, e⟩
            all_goals
              have HE := Lib.hid e
              first
                | have hne : ((C : Int) != (m : Int)) = false := by simp; omega
                | have hne : ((C : Int) != (m : Int)) = true := by simp; omega
              clear e h4 hAe hK3 hz b0 hAl hole hlo hm0
              go_wp2_with (first
                | (go_at_call 72; refine (HWD.out _).mono ?_; rintro e w1 ⟨rfl, hk⟩; have K1 := Lib.hid hk; clear hk)
                | (go_at_call 52; refine (HNUM.out _ (HK0.out.trans K1.out)).mono ?_; rintro e w' ⟨rfl, rfl⟩)
                | (go_at_call_of 68 S1; refine (HP1.out _).mono ?_; rintro e w' ⟨rfl, rfl⟩)
                | (go_at_call 71; refine (HWAY.out _).mono ?_; rintro e w2 ⟨rfl, hk⟩; have K2 := Lib.hid (K1.out.trans hk); have G2 := Lib.hid (HG.out _ K2.out); obtain ⟨⟨g0, g1, g2⟩, f0, f1, f2⟩ := G2.out.c; clear hk))
            · refine got_end (V := 0) (N := 0) (E := 3) Tryd.results59 rfl rfl (G2.out.set 0 0 3) ?_
              rw [HE.out]; exact HFIN.out _ 0 0 3 K2.out
            · refine got_end (V := (U : Int)) (N := (T : Int)) (E := 0) Tryd.results59 rfl rfl (G2.out.set U T 0) ?_
              rw [HE.out, ← HT.out, ← HUE.out]; exact HFIN.out _ U T 0 K2.out
          · have m4 : (m : Int) < 4 := by omega
            have m4b : decide (m < 4) = true := decide_eq_true hK3
            have ml : (m : Int) < (l.length : Int) := by omega
            have mln : m < l.length := by omega
            have meq : ((m : Int) == (l.length : Int)) = false := by simp; omega
            have ma : (m : Int) + 1 = (A : Int) := by omega
            obtain ⟨g, off, e1, b0⟩ := HCELL.out w0 (Kept.refl _ _) m (by omega)
            subst e1
            rw [hz] at b0
            have b1 : w0.cell? ⟨g, off + m, none⟩ = some (.int .i64 0) := b0
            have z0 : (0 : Int) < (m : Int) := by omega
            have z0b : decide (0 < m) = true := decide_eq_true hm0
            obtain ⟨hs1, hs16⟩ := hS16 hm0 hK3
            obtain ⟨S1, hS1e⟩ : ∃ S1, S1 = S - 1 := ⟨_, rfl⟩
            have s1w : IntKind.i64.wrap ((S : Int) - 1) = (S1 : Int) := by rw [IntWalk.i64_in _ ⟨by omega, by omega⟩]; omega
            have HP1 := Lib.hid (refPower_any S1 (by omega))
            have HP2 := Lib.hid (refPower_any S (by omega))
            rw [← hS1e] at hhi
            obtain ⟨P1, hP1⟩ : ∃ P1, P1 = 2 ^ S1 := ⟨_, rfl⟩
            rw [← hP1] at HP1 hhi
            obtain ⟨P2, hP2⟩ : ∃ P2, P2 = 2 ^ S := ⟨_, rfl⟩
            rw [← hP2] at HP2 hx2 hUx
            have qp : (P1 : Int) ≤ (x : Int) := by omega
            have qpb : decide (P1 ≤ x) = true := decide_eq_true hhi
            have uw : IntKind.u64.wrap ((x : Int) - (P2 : Int)) = (U : Int) := by
              have hp : P2 ≤ 2 ^ 16 := by rw [hP2]; exact Nat.pow_le_pow_right (by omega) hs16
              rw [IntKind.wrap_u64]; omega
            clear hS16 hs1 hS1e hP1 hP2 hUx
            rcases hrest with ⟨h4, e⟩ | ⟨h4, e⟩
            all_goals
              have HE := Lib.hid e
              first
                | have hne : ((C : Int) != (m : Int)) = false := by simp; omega
                | have hne : ((C : Int) != (m : Int)) = true := by simp; omega
              clear e h4 hAe hK3 hz b0 hAl hole hhi hm0
              go_wp2_with (first
                | (go_at_call 72; refine (HWD.out _).mono ?_; rintro e w1 ⟨rfl, hk⟩; have K1 := Lib.hid hk; clear hk)
                | (go_at_call 52; refine (HNUM.out _ (HK0.out.trans K1.out)).mono ?_; rintro e w' ⟨rfl, rfl⟩)
                | (go_at_call_of 68 S1; refine (HP1.out _).mono ?_; rintro e w' ⟨rfl, rfl⟩)
                | (go_at_call_of 68 S; refine (HP2.out _).mono ?_; rintro e w' ⟨rfl, rfl⟩)
                | (go_at_call 71; refine (HWAY.out _).mono ?_; rintro e w2 ⟨rfl, hk⟩; have K2 := Lib.hid (K1.out.trans hk); have G2 := Lib.hid (HG.out _ K2.out); obtain ⟨⟨g0, g1, g2⟩, f0, f1, f2⟩ := G2.out.c; clear hk))
            · refine got_end (V := 0) (N := 0) (E := 3) Tryd.results59 rfl rfl (G2.out.set 0 0 3) ?_
              rw [HE.out]; exact HFIN.out _ 0 0 3 K2.out
            · refine got_end (V := (U : Int)) (N := (T : Int)) (E := 0) Tryd.results59 rfl rfl (G2.out.set U T 0) ?_
              rw [HE.out, ← HT.out, ← HUE.out]; exact HFIN.out _ U T 0 K2.out
          · have m4 : ¬ (m : Int) < 4 := by omega
            have m4b : decide (m < 4) = false := decide_eq_false (by omega)
            have z0 : (0 : Int) < (m : Int) := by omega
            have z0b : decide (0 < m) = true := decide_eq_true (by omega)
            subst hAe hUx
            clear hK3
            rcases hrest with ⟨h4, e⟩ | ⟨h4, e⟩
            all_goals
              have HE := Lib.hid e
              first
                | have hne : ((C : Int) != (A : Int)) = false := by simp; omega
                | have hne : ((C : Int) != (A : Int)) = true := by simp; omega
              clear e h4 hAl hole hS16
              go_wp2_with (first
                | (go_at_call 72; refine (HWD.out _).mono ?_; rintro e w1 ⟨rfl, hk⟩; have K1 := Lib.hid hk; clear hk)
                | (go_at_call 52; refine (HNUM.out _ (HK0.out.trans K1.out)).mono ?_; rintro e w' ⟨rfl, rfl⟩)
                | (go_at_call 71; refine (HWAY.out _).mono ?_; rintro e w2 ⟨rfl, hk⟩; have K2 := Lib.hid (K1.out.trans hk); have G2 := Lib.hid (HG.out _ K2.out); obtain ⟨⟨g0, g1, g2⟩, f0, f1, f2⟩ := G2.out.c; clear hk))
            · refine got_end (V := 0) (N := 0) (E := 3) Tryd.results59 rfl rfl (G2.out.set 0 0 3) ?_
              rw [HE.out]; exact HFIN.out _ 0 0 3 K2.out
            · refine got_end (V := (U : Int)) (N := (T : Int)) (E := 0) Tryd.results59 rfl rfl (G2.out.set U T 0) ?_
              rw [HE.out, ← HT.out, ← HUE.out]; exact HFIN.out _ U T 0 K2.out
end Go.Proofs.YtaagjedkojlbpaaDoor
