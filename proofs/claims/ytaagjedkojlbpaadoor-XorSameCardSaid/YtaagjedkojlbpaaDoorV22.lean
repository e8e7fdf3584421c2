/- package limnographref06: Next. -/
import Derived.Test.YtaagjedkojlbpaaDoorV21
namespace Go.Proofs.YtaagjedkojlbpaaDoor
open Go.RowKit
attribute [local go_sem ↓] Go.wp_at_zero Go.wp_at_succ

/-- The number that stands next, as the document tells it. -/
def nextV (n last step : Int) (l : List Bool) : Nat := if (nextGot n last step l).2.2 = 0 then uN (nextGot n last step l).1 else 0
theorem gotStep_V (l : List Bool) (h : (gotStep l).2.2 ≠ 0) : uN (gotStep l).1 = 0 := by rw [(gotStep_E l h).2]; rfl
theorem uN_wrap (x : Int) : uN (wrap64 x) = uN x := by unfold uN wrap64; omega
theorem uN_add (a b : Int) : uN (wrap64 (a + b)) = (uN a + uN b) % 18446744073709551616 := by unfold uN wrap64; omega
theorem uN_zero_add (a : Int) : uN (wrap64 (0 + a)) = uN a := by rw [uN_wrap, Int.zero_add]

set_option maxHeartbeats 4000000 in
set_option maxRecDepth 100000 in
theorem refNext_any (vr v : Value) (row : List Int) (l : List Bool) (w : World) (hr : SlAt w vr (vals row)) (hrl : row.length ≤ 1000000) (hrb : ∀ x ∈ row, I64 x) (hv : SlAt w v (ints l)) (hcap : ∀ a n c, v = .slice a n c → n ≤ c) (hl : l.length ≤ 100000000) :
    Calls Tryd.prog 33 #[vr, v] w (GotV w ((nextV row.length (lastA row row.length) (stepA row row.length) l : Nat) : Int) (nextGot row.length (lastA row row.length) (stepA row row.length) l).2.1 (nextGot row.length (lastA row row.length) (stepA row row.length) l).2.2) := by
  have hrlen := vals_length row
  obtain ⟨ro, rc, hval, _, _⟩ := hr.val
  rw [hrlen] at hval
  subst hval
  obtain ⟨lo, lc, hval, _, _⟩ := hv.val
  rw [ints_length] at hval
  subst hval
  obtain ⟨w0, hw0⟩ : ∃ w0, w0 = w.alloc (.cells #[.int .u64 0, .int .i64 0, .int .i64 0] 44) := ⟨_, rfl⟩
  have K0 : Kept (fun _ => False) w w0 := by rw [hw0]; exact (Kept.refl _ w).alloc _
  have G0 : Got3 w0 w.heap.size 0 0 0 := by rw [hw0]; exact heap_alloc_new w _
  have HFIN := Lib.hid fun w2 (V : Int) (N E : Nat) (h : Kept (fun _ => False) w0 w2) => show GotV w V N E (.returned (.agg #[.int .u64 V, .int .i64 (N : Int), .int .i64 (E : Int)])) _ from ⟨rfl, three_kept (x := .int .u64 V) (y := .int .i64 (N : Int)) (z := .int .i64 (E : Int)) (K0.trans h) (Nat.le_refl _)⟩
  have HG := Lib.hid fun w2 (h : Kept (fun _ => False) w0 w2) => show Got3 w2 w.heap.size 0 0 0 from h.same G0 (fun x => x)
  have HK0 := Lib.hid K0
  have HRC := Lib.hid fun w2 (h : Kept (fun _ => False) w0 w2) j (hj : j < row.length) => (hr.kept (K0.trans h) (fun _ _ x => x)).elem (vals_get hj)
  have HI := Lib.hid (getD_I64 hrb)
  by_cases h2 : row.length < 2
  · have hng : nextGot row.length (lastA row row.length) (stepA row row.length) l = (wrap64 (lastA row row.length + zagI (gotSmall l).1), (gotSmall l).2.1, (gotSmall l).2.2) := by unfold nextGot; rw [if_pos (by omega)]
    have HGS := refGetSmall_any _ l w0 (hv.kept K0 (fun _ _ x => x)) hcap hl
    have hvl := gotSmall_u64 l
    have hE := gotSmall_E l
    have hV : nextV row.length (lastA row row.length) (stepA row row.length) l = if (gotSmall l).2.2 = 0 then uN (wrap64 (lastA row row.length + zagI (gotSmall l).1)) else 0 := by unfold nextV; rw [hng]
    rw [hV, hng]
    obtain ⟨V, hVe⟩ : ∃ V, V = (gotSmall l).1 := ⟨_, rfl⟩
    obtain ⟨N, hN⟩ : ∃ V, V = (gotSmall l).2.1 := ⟨_, rfl⟩
    obtain ⟨E, hEe⟩ : ∃ V, V = (gotSmall l).2.2 := ⟨_, rfl⟩
    rw [← hVe, ← hN, ← hEe] at HGS hE
    rw [← hVe] at hvl
    show Calls _ _ _ _ (GotV w ((if (gotSmall l).2.2 = 0 then uN (wrap64 (lastA row row.length + zagI (gotSmall l).1)) else 0 : Nat) : Int) (gotSmall l).2.1 (gotSmall l).2.2)
    rw [← hVe, ← hN, ← hEe]
    have HGS := Lib.hid HGS
    have q2 : (row.length : Int) < 2 := by omega
    have q2b : decide (row.length < 2) = true := decide_eq_true h2
    clear hng hV hVe hN hEe K0 G0 hv hcap hr hrlen
    by_cases h0 : E = 0
    · rw [if_pos h0]
      have qe : ((E : Int) != 0) = false := by simp; omega
      obtain ⟨Z, hZ⟩ : ∃ Z, Z = zagI (V : Int) := ⟨_, rfl⟩
      have HZ := Lib.hid (refZag_any (V : Int) (by omega) (by omega))
      rw [← hZ] at HZ ⊢
      have uz := uN_u64 Z
      obtain ⟨U, hU⟩ : ∃ U, U = uN Z := ⟨_, rfl⟩
      rw [← hU] at uz
      have HE0 := Lib.hid h0
      by_cases h1 : row.length = 1
      · have q1 : ((row.length : Int) == 1) = true := by simp; omega
        have e1 : lastA row row.length = row.getD 0 0 := by rw [h1]; rfl
        rw [e1]
        have HRR := Lib.hid fun w2 (h : Kept (fun _ => False) w0 w2) => HRC.out w2 h 0 (by omega)
        obtain ⟨x, hx⟩ : ∃ x, x = row.getD 0 0 := ⟨_, rfl⟩
        rw [← hx] at HRR ⊢
        obtain ⟨g, off, rfl, _⟩ := HRR.out w0 (Kept.refl _ _)
        have HR2 := Lib.hid fun w2 (h : Kept (fun _ => False) w0 w2) => show w2.cell? ⟨g, off, none⟩ = some (.int .i64 x) from by
          obtain ⟨_, _, e', b⟩ := HRR.out w2 h
          injection e' with e'; injection e' with e1 e2; subst e1; subst e2
          exact b
        have ux := uN_u64 x
        obtain ⟨Y, hY⟩ : ∃ Y, Y = uN x := ⟨_, rfl⟩
        rw [← hY] at ux
        obtain ⟨R, hR⟩ : ∃ R, R = uN (wrap64 (x + Z)) := ⟨_, rfl⟩
        have ur : IntKind.u64.wrap ((U : Int) + (Y : Int)) = (R : Int) := by
          have := uN_add x Z
          rw [IntKind.wrap_u64]; omega
        rw [← hR]
        have r0 : (0 : Int) < (row.length : Int) := by omega
        have r0n : 0 < row.length := by omega
        clear hE hZ hU h1 e1 hx hY hR h2 h0 hvl
        subst hw0
        go_enter Tryd.func33, Tryd.ntmps33
        go_wp2_with (first
          | (go_at_call 21; refine HGS.out.mono ?_; rintro e w1 ⟨rfl, hk⟩; have K1 := Lib.hid hk; have K2 := Lib.hid (hk.alloc (.cells #[.int .u64 (V : Int), .int .i64 (N : Int), .int .i64 (E : Int)] 44)); have G2 := Lib.hid (HG.out _ K2.out); obtain ⟨⟨g0, g1, g2⟩, f0, f1, f2⟩ := G2.out.c; have b1 := HR2.out _ K2.out; clear hk)
          | (go_at_call 23; refine (HZ.out _).mono ?_; rintro e w' ⟨rfl, rfl⟩))
        refine got_end (V := (R : Int)) (N := (N : Int)) (E := 0) Tryd.results33 rfl rfl (G2.out.set R N 0) ?_
        have F := HFIN.out _ (R : Int) N 0 K2.out
        exact ⟨by rw [HE0.out]; exact F.1, F.2⟩
      · have q1 : ((row.length : Int) == 1) = false := by simp; omega
        have e1 : lastA row row.length = 0 := by have : row.length = 0 := by omega
                                                 rw [this]; rfl
        rw [e1]
        have hRU : uN (wrap64 (0 + Z)) = U := by rw [uN_zero_add, hU]
        rw [hRU]
        clear hE hZ hU h1 e1 h2 h0 hvl hRU
        subst hw0
        go_enter Tryd.func33, Tryd.ntmps33
        go_wp2_with (first
          | (go_at_call 21; refine HGS.out.mono ?_; rintro e w1 ⟨rfl, hk⟩; have K1 := Lib.hid hk; have K2 := Lib.hid (hk.alloc (.cells #[.int .u64 (V : Int), .int .i64 (N : Int), .int .i64 (E : Int)] 44)); have G2 := Lib.hid (HG.out _ K2.out); obtain ⟨⟨g0, g1, g2⟩, f0, f1, f2⟩ := G2.out.c; clear hk)
          | (go_at_call 23; refine (HZ.out _).mono ?_; rintro e w' ⟨rfl, rfl⟩))
        refine got_end (V := (U : Int)) (N := (N : Int)) (E := 0) Tryd.results33 rfl rfl (G2.out.set U N 0) ?_
        have F := HFIN.out _ (U : Int) N 0 K2.out
        exact ⟨by rw [HE0.out]; exact F.1, F.2⟩
    · rw [if_neg h0]
      have qe : ((E : Int) != 0) = true := by simp; omega
      obtain ⟨hN0, hV0⟩ := hE h0
      subst hN0 hV0
      clear hE h2 h0 hvl
      subst hw0
      go_enter Tryd.func33, Tryd.ntmps33
      go_wp2_with (go_at_call 21; refine HGS.out.mono ?_; rintro e w1 ⟨rfl, hk⟩; have K1 := Lib.hid hk; have K2 := Lib.hid (hk.alloc (.cells #[.int .u64 0, .int .i64 0, .int .i64 (E : Int)] 44)); have G2 := Lib.hid (HG.out _ K2.out); obtain ⟨⟨g0, g1, g2⟩, f0, f1, f2⟩ := G2.out.c; clear hk)
      refine got_end (V := 0) (N := 0) (E := (E : Int)) Tryd.results33 rfl rfl (G2.out.set 0 0 E) ?_
      exact HFIN.out _ 0 0 E K2.out
  · have hng : nextGot row.length (lastA row row.length) (stepA row row.length) l = (wrap64 (wrap64 (lastA row row.length + stepA row row.length) + (gotStep l).1), (gotStep l).2.1, (gotStep l).2.2) := by unfold nextGot; rw [if_neg (by omega)]
    have HGS := refGetStep_any _ l w0 (hv.kept K0 (fun _ _ x => x)) hcap hl
    have hE := gotStep_E l
    have hEV := gotStep_V l
    have hV : nextV row.length (lastA row row.length) (stepA row row.length) l = if (gotStep l).2.2 = 0 then uN (wrap64 (wrap64 (lastA row row.length + stepA row row.length) + (gotStep l).1)) else 0 := by unfold nextV; rw [hng]
    rw [hV, hng]
    obtain ⟨D, hD⟩ : ∃ V, V = (gotStep l).1 := ⟨_, rfl⟩
    obtain ⟨N, hN⟩ : ∃ V, V = (gotStep l).2.1 := ⟨_, rfl⟩
    obtain ⟨E, hEe⟩ : ∃ V, V = (gotStep l).2.2 := ⟨_, rfl⟩
    rw [← hD, ← hN, ← hEe] at HGS hE
    rw [← hD, ← hEe] at hEV
    show Calls _ _ _ _ (GotV w ((if (gotStep l).2.2 = 0 then uN (wrap64 (wrap64 (lastA row row.length + stepA row row.length) + (gotStep l).1)) else 0 : Nat) : Int) (gotStep l).2.1 (gotStep l).2.2)
    rw [← hD, ← hN, ← hEe]
    obtain ⟨V, hVe⟩ : ∃ V, V = uN D := ⟨_, rfl⟩
    rw [← hVe] at HGS hEV
    have HGS := Lib.hid HGS
    have q2 : ¬ (row.length : Int) < 2 := by omega
    have q2b : decide (row.length < 2) = false := decide_eq_false h2
    clear hng hV hD hN hEe K0 G0 hv hcap hr hrlen
    by_cases h0 : E = 0
    · rw [if_pos h0]
      have qe : ((E : Int) != 0) = false := by simp; omega
      have HE0 := Lib.hid h0
      obtain ⟨j1, hj1⟩ : ∃ j1, j1 = row.length - 1 := ⟨_, rfl⟩
      obtain ⟨j2, hj2⟩ : ∃ j2, j2 = row.length - 2 := ⟨_, rfl⟩
      have e1 : lastA row row.length = row.getD j1 0 := by unfold lastA; rw [if_neg (by omega), hj1]
      have e2 : stepA row row.length = diffI (row.getD j1 0) (row.getD j2 0) := by unfold stepA; rw [if_neg h2, hj1, hj2]
      rw [e1, e2]
      have HR1 := Lib.hid fun w2 (h : Kept (fun _ => False) w0 w2) => HRC.out w2 h j1 (by omega)
      have HR2 := Lib.hid fun w2 (h : Kept (fun _ => False) w0 w2) => HRC.out w2 h j2 (by omega)
      obtain ⟨y, hy⟩ : ∃ x, x = row.getD j1 0 := ⟨_, rfl⟩
      obtain ⟨z, hz⟩ : ∃ x, x = row.getD j2 0 := ⟨_, rfl⟩
      rw [← hy] at HR1 ⊢
      rw [← hz] at HR2 ⊢
      obtain ⟨g, off, rfl, _⟩ := HR1.out w0 (Kept.refl _ _)
      have HRA := Lib.hid fun w2 (h : Kept (fun _ => False) w0 w2) => show w2.cell? ⟨g, off + j1, none⟩ = some (.int .i64 y) ∧ w2.cell? ⟨g, off + j2, none⟩ = some (.int .i64 z) from by
        obtain ⟨_, _, e', b⟩ := HR1.out w2 h
        injection e' with e'; injection e' with e1 e2; subst e1; subst e2
        obtain ⟨_, _, e', b'⟩ := HR2.out w2 h
        injection e' with e'; injection e' with e1 e2; subst e1; subst e2
        exact ⟨b, b'⟩
      have uy := uN_u64 y
      have uz := uN_u64 z
      obtain ⟨Y, hY⟩ : ∃ Y, Y = uN y := ⟨_, rfl⟩
      obtain ⟨Z, hZ⟩ : ∃ Y, Y = uN z := ⟨_, rfl⟩
      rw [← hY] at uy
      rw [← hZ] at uz
      obtain ⟨A1, hA1⟩ : ∃ A1 : Nat, (A1 : Int) = (2 * (Y : Int)) % 18446744073709551616 := ⟨((2 * (Y : Int)) % 18446744073709551616).toNat, by omega⟩
      obtain ⟨A2, hA2⟩ : ∃ A2 : Nat, (A2 : Int) = ((V : Int) + (A1 : Int)) % 18446744073709551616 := ⟨(((V : Int) + (A1 : Int)) % 18446744073709551616).toNat, by omega⟩
      obtain ⟨R, hR⟩ : ∃ R, R = uN (wrap64 (wrap64 (y + diffI y z) + D)) := ⟨_, rfl⟩
      have u1 : IntKind.u64.wrap (2 * (Y : Int)) = (A1 : Int) := by rw [IntKind.wrap_u64]; omega
      have u2 : IntKind.u64.wrap ((V : Int) + (A1 : Int)) = (A2 : Int) := by rw [IntKind.wrap_u64]; omega
      have u3 : IntKind.u64.wrap ((A2 : Int) - (Z : Int)) = (R : Int) := by
        rw [IntKind.wrap_u64, hR]
        unfold uN at hVe hY hZ ⊢
        unfold diffI wrap64
        omega
      rw [← hR]
      have k1 : IntKind.i64.wrap ((row.length : Int) - 1) = (j1 : Int) := by rw [IntWalk.i64_in _ ⟨by omega, by omega⟩]; omega
      have k2 : IntKind.i64.wrap ((row.length : Int) - 2) = (j2 : Int) := by rw [IntWalk.i64_in _ ⟨by omega, by omega⟩]; omega
      have j10 : (0 : Int) ≤ (j1 : Int) := by omega
      have j1l : (j1 : Int) < (row.length : Int) := by omega
      have j20 : (0 : Int) ≤ (j2 : Int) := by omega
      have j2l : (j2 : Int) < (row.length : Int) := by omega
      clear hE hEV h2 h0 hVe hy hz hY hZ hA1 hA2 hR hj1 hj2 e1 e2
      subst hw0
      go_enter Tryd.func33, Tryd.ntmps33
      go_wp2_with (go_at_call 59; refine HGS.out.mono ?_; rintro e w1 ⟨rfl, hk⟩; have K2 := Lib.hid (hk.alloc (.cells #[.int .u64 (V : Int), .int .i64 (N : Int), .int .i64 (E : Int)] 44)); clear hk)
      obtain ⟨w2, hw2⟩ : ∃ w2, w2 = w1.alloc (.cells #[.int .u64 (V : Int), .int .i64 (N : Int), .int .i64 (E : Int)] 44) := ⟨_, rfl⟩
      have n0 : Got3 w2 w1.heap.size V N E := by rw [hw2]; exact heap_alloc_new w1 _
      rw [← hw2] at K2 ⊢
      obtain ⟨w3, hw3⟩ : ∃ w3, w3 = w2.drew := ⟨_, rfl⟩
      have K3 := Lib.hid (K2.out.drew)
      rw [← hw3] at K3
      have HW3 := Lib.hid hw3
      have G3 := Lib.hid (HG.out _ K3.out)
      obtain ⟨⟨d0, d1, d2⟩, _⟩ := n0.c
      obtain ⟨b1, b2⟩ := HRA.out w2 K2.out
      clear hw2 hw3 n0
      go_still_tail 20, (by kernel_rfl)
      obtain ⟨⟨g0, g1, g2⟩, f0, f1, f2⟩ := G3.out.c
      change wpList _ _ _ _ _ w2.drew
      rw [← HW3.out]
      go_wp2
      refine got_end (V := (R : Int)) (N := (N : Int)) (E := 0) Tryd.results33 rfl rfl (G3.out.set R N 0) ?_
      have F := HFIN.out _ (R : Int) N 0 K3.out
      exact ⟨by rw [HE0.out]; exact F.1, F.2⟩
    · rw [if_neg h0]
      have qe : ((E : Int) != 0) = true := by simp; omega
      obtain ⟨hN0, _⟩ := hE h0
      have hV0 := hEV h0
      subst hN0 hV0
      clear hE h2 h0 hEV hVe
      subst hw0
      go_enter Tryd.func33, Tryd.ntmps33
      go_wp2_with (go_at_call 59; refine HGS.out.mono ?_; rintro e w1 ⟨rfl, hk⟩; have K1 := Lib.hid hk; have K2 := Lib.hid (hk.alloc (.cells #[.int .u64 0, .int .i64 0, .int .i64 (E : Int)] 44)); have G2 := Lib.hid (HG.out _ K2.out); obtain ⟨⟨g0, g1, g2⟩, f0, f1, f2⟩ := G2.out.c; clear hk)
      refine got_end (V := 0) (N := 0) (E := (E : Int)) Tryd.results33 rfl rfl (G2.out.set 0 0 E) ?_
      exact HFIN.out _ 0 0 E K2.out
end Go.Proofs.YtaagjedkojlbpaaDoor
