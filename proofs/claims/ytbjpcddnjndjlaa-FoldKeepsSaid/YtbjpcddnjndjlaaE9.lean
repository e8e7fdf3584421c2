/- The document's less: a side without another one. -/
import Derived.Test.YtbjpcddnjndjlaaE8
namespace Go.Proofs.Ytbjpcddnjndjlaa
open Go.RowKit
attribute [local go_sem ↓] Go.wp_at_zero Go.wp_at_succ

theorem side_small {o : Int} {l : List Nat} (h : sideE o l = 0) : -1073741824 ≤ o ∧ o ≤ 1073741824 := by
  obtain ⟨_, h2, h3⟩ := sideE_zero h
  by_cases z : l.length = 0
  · have := h2 z; omega
  · have := h3 z; omega

set_option maxHeartbeats 4000000 in
set_option maxRecDepth 100000 in
theorem refLess_any (o1 : Int) (l1 : List Nat) (o2 : Int) (l2 : List Nat) (v1 v2 : Value) (w : World) (m1 : SlAt w v1 (uvals l1)) (m2 : SlAt w v2 (uvals l2)) (h1 : sideE o1 l1 = 0) (h2 : sideE o2 l2 = 0) (hb1 : ∀ x ∈ l1, x < 18446744073709551616) (hb2 : ∀ x ∈ l2, x < 18446744073709551616) :
    Calls Try.prog 48 #[.agg #[.int .i64 o1, v1], .agg #[.int .i64 o2, v2]] w (SubOut w (SubRes o1 l1 o2 l2)) := by
  obtain ⟨a1, a2, a3⟩ := sideE_zero h1
  obtain ⟨b1, b2, b3⟩ := sideE_zero h2
  obtain ⟨r1, r2⟩ := side_small h1
  obtain ⟨r3, r4⟩ := side_small h2
  obtain ⟨ao, c, hval1, _, _⟩ := m1.val
  obtain ⟨bo, d, hval2, _, _⟩ := m2.val
  rw [uvals_length] at hval1 hval2
  subst hval1 hval2
  have hsb := SB3.mk0 w o1 o2 (.slice ao l1.length c) (.slice bo l2.length d)
  obtain ⟨w0, hw0⟩ : ∃ w0, w0 = (((w.alloc (.cells #[.int .i64 o1, .slice ao l1.length c] 25)).alloc (.cells #[.int .i64 o2, .slice bo l2.length d] 25)).alloc (.cells #[.int .i64 0, .slice none 0 0] 25)) := ⟨_, rfl⟩
  rw [← hw0] at hsb
  have k0 : Kept (fun _ => False) w w0 := by rw [hw0]; exact (((Kept.refl _ w).alloc _).alloc _).alloc _
  have HW0 := Lib.hid hw0
  have HSB := Lib.hid hsb
  have HK0 := Lib.hid k0
  have HV1 := Lib.hid m1
  have HV2 := Lib.hid m2
  have hr := reach_any o1 l1 o2 l2 _ _ w0 (m1.kept k0 (fun _ _ x => x)) (m2.kept k0 (fun _ _ x => x)) ⟨by omega, by omega⟩ ⟨by omega, by omega⟩ (by omega) (by omega)
  unfold reachV at hr
  obtain ⟨f1, f2, f3, f4, f5⟩ := sp_facts o1 l1 o2 l2
  have HA1 := Lib.hid fun w' (k : SlAt w' (.slice ao l1.length c) (uvals l1)) i (hi : -1000000000000 ≤ i ∧ i ≤ 1000000000000) => refAt9_any o1 i l1 _ w' k ⟨by omega, by omega⟩ hi (by omega)
  have HA2 := Lib.hid fun w' (k : SlAt w' (.slice bo l2.length d) (uvals l2)) i (hi : -1000000000000 ≤ i ∧ i ≤ 1000000000000) => refAt9_any o2 i l2 _ w' k ⟨by omega, by omega⟩ hi (by omega)
  by_cases hz : l1.length = 0 ∧ l2.length = 0
  · obtain ⟨z1, z2⟩ := hz
    obtain ⟨e1, e2⟩ := f5 z1 z2
    rw [if_pos ⟨z1, z2⟩, decide_eq_false (by omega), e1] at hr
    rw [hw0] at hr
    have HR : Hid (SubRes o1 l1 o2 l2 true 0 []) := Lib.hid (.inl ⟨rfl, fun i hi => by omega, .inl ⟨fun j hj => by unfold lsL at hj; rw [rowF_length] at hj; omega, rfl, rfl⟩⟩)
    have HC := Lib.hid hr
    clear hr m1 m2 hw0 hsb k0 z1 z2 e1 e2 a1 a2 a3 b1 b2 b3 h1 h2 f1 f2 f3 f4 f5 r1 r2 r3 r4 hb1 hb2
    go_enter Try.func48, Try.ntmps48
    go_wp2_with fail
    refine HC.out.mono ?_
    rintro e w1 ⟨rfl, k1⟩
    rw [← HW0.out] at k1
    have HK1 := Lib.hid (HK0.out.trans k1)
    have hx := HSB.out.on k1
    have HX := Lib.hid hx
    obtain ⟨⟨x0, x1⟩, g0, g1⟩ := hx.r.c
    clear k1 hx
    go_wp2
    refine side2_end (o := 0) (v := .slice none 0 0) Try.results48 rfl rfl rfl (HX.out.r.set 0 (.slice none 0 0)) ?_
    exact ⟨true, 0, [], _, HR.out, rfl, Mine.nil' _ (two_kept HK1.out (by omega))⟩
  · have hz' : l1.length ≠ 0 ∨ l2.length ≠ 0 := by omega
    rw [if_neg hz, decide_eq_true hz'] at hr
    rw [hw0] at hr
    have hspan : hasS o1 l1 o2 l2 → spF o1 l1 o2 l2 = o1 ∧ spT o1 l1 o2 l2 = o1 + (l1.length : Int) := fun h => by
      obtain ⟨e1, e2⟩ := has_sp h1 h2 h
      rw [e1, e2] at f1
      exact ⟨e1, by omega⟩
    have HSPAN := Lib.hid hspan
    have HB1 := Lib.hid (And.intro hb1 hb2)
    have HL := Lib.hid (And.intro a1 b1)
    obtain ⟨F, hFF⟩ : ∃ F, F = spF o1 l1 o2 l2 := ⟨_, rfl⟩
    obtain ⟨T, hTT⟩ : ∃ T, T = spT o1 l1 o2 l2 := ⟨_, rfl⟩
    rw [← hFF, ← hTT] at hr HSPAN
    have HC := Lib.hid hr
    clear hr hspan hFF hTT m1 m2 hw0 hsb k0 hz hz' a1 a2 a3 b1 b2 b3 h1 h2 f1 f2 f3 f4 f5 hb1 hb2
    go_enter Try.func48, Try.ntmps48
    go_wp2_with fail
    refine HC.out.mono ?_
    rintro e w1 ⟨rfl, k1⟩
    rw [← HW0.out] at k1
    have HSR0 := Lib.hid (And.intro (HSB.out.on k1) (HK0.out.trans k1))
    clear k1
    go_wp2
    go_loopg [9, 22, 23, 24, 25, 26, 27, 28, 29, 30, 31, 32, 33, 34, 35, 36, 37, 38, 39, 40, 41] l2.length (fun g' s9 s22 s23 s24 s25 s26 s27 s28 s29 s30 s31 s32 s33 s34 s35 s36 s37 s38 s39 s40 s41 wr => ∃ i : Nat, i ≤ l2.length ∧ g' = l2.length - i ∧ s9 = .int .i64 i ∧ (∀ j, j < i → l2.getD j 0 ≤ atN o1 l1 (o2 + (j : Int))) ∧ SB3 w wr o1 o2 0 (.slice ao l1.length c) (.slice bo l2.length d) (.slice none 0 0) ∧ Kept (fun _ => False) w wr)
    case atStart => exact ⟨0, Nat.zero_le _, rfl, rfl, fun j h => by omega, HSR0.out.1, HSR0.out.2⟩
    case round =>
      obtain ⟨i, hil, rfl, rfl, hP, hsb, hkw⟩ := hrel
      have HPP := Lib.hid hP
      have HSR := Lib.hid hsb
      have HKW := Lib.hid hkw
      obtain ⟨⟨y0, y1⟩, _⟩ := hsb.b.c
      by_cases hd : i < l2.length
      · have hdi : (i : Int) < (l2.length : Int) := by omega
        have i0 : (0 : Int) ≤ (i : Int) := by omega
        have i9 : (i : Int) < 1000 := by have := HL.out; omega
        have HD := Lib.hid hd
        obtain ⟨g, off, rfl, c0⟩ := (HV2.out.kept hkw (fun _ _ x => x)).elem (uvals_get hd)
        obtain ⟨y, hy⟩ : ∃ y, y = l2.getD i 0 := ⟨_, rfl⟩
        rw [← hy] at c0
        have t1 : IntKind.i64.wrap (o2 + (i : Int)) = o2 + (i : Int) := IntWalk.i64_in _ ⟨by omega, by have := HL.out; omega⟩
        have hca := HA1.out wr.drew (HV1.out.kept hkw.drew (fun _ _ x => x)) (o2 + (i : Int)) ⟨by omega, by have := HL.out; omega⟩
        obtain ⟨X, hX⟩ : ∃ X, X = atN o1 l1 (o2 + (i : Int)) := ⟨_, rfl⟩
        rw [← hX] at hca
        have HCA := Lib.hid hca
        have hS : ∀ w', Kept (fun _ => False) wr w' → (w'.cell? ⟨w.heap.size, 0, none⟩ = some (.int .i64 o1) ∧ w'.cell? ⟨w.heap.size, 1, none⟩ = some (.slice ao l1.length c)) ∧ (w'.cell? ⟨w.heap.size + 1, 0, none⟩ = some (.int .i64 o2) ∧ w'.cell? ⟨w.heap.size + 1, 1, none⟩ = some (.slice (some ⟨g, off, none⟩) l2.length d)) ∧ w'.cell? ⟨g, off + i, none⟩ = some (.int .u64 (y : Int)) := fun w' k => ⟨(HSR.out.on k).a.c.1, (HSR.out.on k).b.c.1, k.cell c0 (fun x => x)⟩
        have HSS := Lib.hid hS
        have HS0 := Lib.hid (hS _ (Kept.refl _ _).drew)
        by_cases hle : y ≤ X
        · have q : ¬ (X : Int) < (y : Int) := by omega
          have qd : decide ((X : Int) < (y : Int)) = false := decide_eq_false q
          have HP2 := Lib.hid (show ∀ j, j < i + 1 → l2.getD j 0 ≤ atN o1 l1 (o2 + (j : Int)) from fun j hj => by
            by_cases e : j = i
            · rw [e, ← hy, ← hX]; exact hle
            · exact HPP.out j (by omega))
          clear hca hX hy hle hP hsb hkw hd hS c0
          go_wp2
          refine AnyBut.start (S := fun w' => (w'.cell? ⟨w.heap.size, 0, none⟩ = some (.int .i64 o1) ∧ w'.cell? ⟨w.heap.size, 1, none⟩ = some (.slice ao l1.length c)) ∧ (w'.cell? ⟨w.heap.size + 1, 0, none⟩ = some (.int .i64 o2) ∧ w'.cell? ⟨w.heap.size + 1, 1, none⟩ = some (.slice (some ⟨g, off, none⟩) l2.length d)) ∧ w'.cell? ⟨g, off + i, none⟩ = some (.int .u64 (y : Int))) (k := 12) (by kernel_rfl) ?_
          refine AnyBut.takeS (i := 0) (v := ?v1) rfl (by kernel_rfl) (Nat.le_of_eq (by kernel_rfl)) (by kernel_rfl) (by kernel_rfl) (fun _ _ _ h => h) (HS0.out) (Or.inl ⟨by rfl, ?hy1⟩) ?r1
          case hy1 =>
            intro w hSw
            try dsimp only at hSw
            go_simp
            try with_reducible rfl
          try simp only [Act.put, List.setIfInBounds_toArray]
          refine AnyBut.takeS (i := 1) (v := ?v2) rfl (by kernel_rfl) (Nat.le_of_eq (by kernel_rfl)) (by kernel_rfl) (by kernel_rfl) (fun _ _ _ h => h) (HS0.out) (Or.inl ⟨by rfl, ?hy2⟩) ?r2
          case hy2 =>
            intro w hSw
            try dsimp only at hSw
            go_simp
            try with_reducible rfl
          try simp only [Act.put]
          refine AnyBut.takeS (i := 2) (v := ?v3) rfl (by kernel_rfl) (Nat.le_of_eq (by kernel_rfl)) (by kernel_rfl) (by kernel_rfl) (fun _ _ _ h => h) (HS0.out) (Or.inl ⟨by rfl, ?hy3⟩) ?r3
          case hy3 =>
            intro w hSw
            try dsimp only at hSw
            go_simp
            try with_reducible rfl
          try simp only [Act.put]
          refine AnyBut.takeS (i := 3) (v := ?v4) rfl (by kernel_rfl) (Nat.le_of_eq (by kernel_rfl)) (by kernel_rfl) (by kernel_rfl) (fun _ _ _ h => h) (HS0.out) (Or.inl ⟨by rfl, ?hy4⟩) ?r4
          case hy4 =>
            intro w hSw
            try dsimp only at hSw
            go_simp
            try with_reducible rfl
          try simp only [Act.put]
          refine AnyBut.takeS (i := 4) (v := ?v5) rfl (by kernel_rfl) (Nat.le_of_eq (by kernel_rfl)) (by kernel_rfl) (by kernel_rfl) (fun _ _ _ h => h) (HS0.out) (Or.inl ⟨by rfl, ?hy5⟩) ?r5
          case hy5 =>
            intro w hSw
            try dsimp only at hSw
            go_simp
            try with_reducible rfl
          try simp only [Act.put]
          refine AnyBut.takeS (i := 5) (v := ?v6) rfl (by kernel_rfl) (Nat.le_of_eq (by kernel_rfl)) (by kernel_rfl) (by kernel_rfl) (fun _ _ _ h => h) (HS0.out) (Or.inl ⟨by rfl, ?hy6⟩) ?r6
          case hy6 =>
            intro w hSw
            try dsimp only at hSw
            go_simp
            try with_reducible rfl
          try simp only [Act.put]
          refine AnyBut.takeS (i := 6) (v := ?v7) rfl (by kernel_rfl) (Nat.le_of_eq (by kernel_rfl)) (by kernel_rfl) (by kernel_rfl) (fun _ _ _ h => h) (HS0.out) (Or.inl ⟨by rfl, ?hy7⟩) ?r7
          case hy7 =>
            intro w hSw
            try dsimp only at hSw
            go_simp
            try with_reducible rfl
          try simp only [Act.put]
          refine AnyBut.takeS (i := 7) (v := ?v8) rfl (by kernel_rfl) (Nat.le_of_eq (by kernel_rfl)) (by kernel_rfl) (by kernel_rfl) (fun _ _ _ h => h) (HS0.out) (Or.inl ⟨by rfl, ?hy8⟩) ?r8
          case hy8 =>
            intro w hSw
            try dsimp only at hSw
            go_simp
            try with_reducible rfl
          try simp only [Act.put]
          refine AnyBut.takeS (i := 8) (v := ?v9) rfl (by kernel_rfl) (Nat.le_of_eq (by kernel_rfl)) (by kernel_rfl) (by kernel_rfl) (fun _ _ _ h => h) (HS0.out) (Or.inl ⟨by rfl, ?hy9⟩) ?r9
          case hy9 =>
            intro w hSw
            try dsimp only at hSw
            go_simp
            try with_reducible rfl
          try simp only [Act.put]
          refine AnyBut.takeS (i := 9) (v := ?v10) rfl (by kernel_rfl) (Nat.le_of_eq (by kernel_rfl)) (by kernel_rfl) (by kernel_rfl) (fun _ _ _ h => h) (HS0.out) (Or.inl ⟨by rfl, ?hy10⟩) ?r10
          case hy10 =>
            intro w hSw
            try dsimp only at hSw
            go_simp
            try with_reducible rfl
          try simp only [Act.put]
          refine AnyBut.one (i := 10) (by kernel_rfl) rfl (fun K hK => ?_)
          go_simp
          go_wp2_with fail
          refine HCA.out.mono ?_
          rintro e w4 ⟨rfl, k4⟩
          have HK4 := Lib.hid (((Kept.refl (fun _ => False) wr).drew).trans k4)
          have HS4 := Lib.hid (HSS.out _ HK4.out)
          clear k4
          go_wp2
          refine hK.out _ _ (HS4.out) ?_
          clear hK K
          try simp only [Act.put, List.setIfInBounds_toArray, List.set_cons_zero, List.set_cons_succ]
          refine AnyBut.takeS (i := 11) (v := ?v11) rfl (by kernel_rfl) (Nat.le_of_eq (by kernel_rfl)) (by kernel_rfl) (by kernel_rfl) (fun _ _ _ h => h) (HS4.out) (Or.inl ⟨by rfl, ?hy11⟩) ?r11
          case hy11 =>
            intro w hSw
            try dsimp only at hSw
            go_simp
            try with_reducible rfl
          try simp only [Act.put, List.setIfInBounds_toArray]
          refine AnyBut.done (by kernel_rfl) ?_
          go_wp2
          have HS1 := Lib.hid (And.intro (HSR.out.on HK4.out) (HKW.out.trans HK4.out))
          go_roundg (l2.length - (i + 1))
          case measure => have := HD.out; omega
          case rel => exact ⟨i + 1, HD.out, rfl, by go_num, HP2.out, HS1.out.1, HS1.out.2⟩
        · have q : (X : Int) < (y : Int) := by omega
          have HN := Lib.hid (show ¬ hasS o1 l1 o2 l2 from fun h => by have := h i hd; rw [← hy, ← hX] at this; exact hle this)
          clear hca hX hy hle hP hsb hkw hd hS c0
          go_wp2
          refine AnyBut.start (S := fun w' => (w'.cell? ⟨w.heap.size, 0, none⟩ = some (.int .i64 o1) ∧ w'.cell? ⟨w.heap.size, 1, none⟩ = some (.slice ao l1.length c)) ∧ (w'.cell? ⟨w.heap.size + 1, 0, none⟩ = some (.int .i64 o2) ∧ w'.cell? ⟨w.heap.size + 1, 1, none⟩ = some (.slice (some ⟨g, off, none⟩) l2.length d)) ∧ w'.cell? ⟨g, off + i, none⟩ = some (.int .u64 (y : Int))) (k := 12) (by kernel_rfl) ?_
          refine AnyBut.takeS (i := 0) (v := ?v20) rfl (by kernel_rfl) (Nat.le_of_eq (by kernel_rfl)) (by kernel_rfl) (by kernel_rfl) (fun _ _ _ h => h) (HS0.out) (Or.inl ⟨by rfl, ?hy20⟩) ?r20
          case hy20 =>
            intro w hSw
            try dsimp only at hSw
            go_simp
            try with_reducible rfl
          try simp only [Act.put, List.setIfInBounds_toArray]
          refine AnyBut.takeS (i := 1) (v := ?v21) rfl (by kernel_rfl) (Nat.le_of_eq (by kernel_rfl)) (by kernel_rfl) (by kernel_rfl) (fun _ _ _ h => h) (HS0.out) (Or.inl ⟨by rfl, ?hy21⟩) ?r21
          case hy21 =>
            intro w hSw
            try dsimp only at hSw
            go_simp
            try with_reducible rfl
          try simp only [Act.put]
          refine AnyBut.takeS (i := 2) (v := ?v22) rfl (by kernel_rfl) (Nat.le_of_eq (by kernel_rfl)) (by kernel_rfl) (by kernel_rfl) (fun _ _ _ h => h) (HS0.out) (Or.inl ⟨by rfl, ?hy22⟩) ?r22
          case hy22 =>
            intro w hSw
            try dsimp only at hSw
            go_simp
            try with_reducible rfl
          try simp only [Act.put]
          refine AnyBut.takeS (i := 3) (v := ?v23) rfl (by kernel_rfl) (Nat.le_of_eq (by kernel_rfl)) (by kernel_rfl) (by kernel_rfl) (fun _ _ _ h => h) (HS0.out) (Or.inl ⟨by rfl, ?hy23⟩) ?r23
          case hy23 =>
            intro w hSw
            try dsimp only at hSw
            go_simp
            try with_reducible rfl
          try simp only [Act.put]
          refine AnyBut.takeS (i := 4) (v := ?v24) rfl (by kernel_rfl) (Nat.le_of_eq (by kernel_rfl)) (by kernel_rfl) (by kernel_rfl) (fun _ _ _ h => h) (HS0.out) (Or.inl ⟨by rfl, ?hy24⟩) ?r24
          case hy24 =>
            intro w hSw
            try dsimp only at hSw
            go_simp
            try with_reducible rfl
          try simp only [Act.put]
          refine AnyBut.takeS (i := 5) (v := ?v25) rfl (by kernel_rfl) (Nat.le_of_eq (by kernel_rfl)) (by kernel_rfl) (by kernel_rfl) (fun _ _ _ h => h) (HS0.out) (Or.inl ⟨by rfl, ?hy25⟩) ?r25
          case hy25 =>
            intro w hSw
            try dsimp only at hSw
            go_simp
            try with_reducible rfl
          try simp only [Act.put]
          refine AnyBut.takeS (i := 6) (v := ?v26) rfl (by kernel_rfl) (Nat.le_of_eq (by kernel_rfl)) (by kernel_rfl) (by kernel_rfl) (fun _ _ _ h => h) (HS0.out) (Or.inl ⟨by rfl, ?hy26⟩) ?r26
          case hy26 =>
            intro w hSw
            try dsimp only at hSw
            go_simp
            try with_reducible rfl
          try simp only [Act.put]
          refine AnyBut.takeS (i := 7) (v := ?v27) rfl (by kernel_rfl) (Nat.le_of_eq (by kernel_rfl)) (by kernel_rfl) (by kernel_rfl) (fun _ _ _ h => h) (HS0.out) (Or.inl ⟨by rfl, ?hy27⟩) ?r27
          case hy27 =>
            intro w hSw
            try dsimp only at hSw
            go_simp
            try with_reducible rfl
          try simp only [Act.put]
          refine AnyBut.takeS (i := 8) (v := ?v28) rfl (by kernel_rfl) (Nat.le_of_eq (by kernel_rfl)) (by kernel_rfl) (by kernel_rfl) (fun _ _ _ h => h) (HS0.out) (Or.inl ⟨by rfl, ?hy28⟩) ?r28
          case hy28 =>
            intro w hSw
            try dsimp only at hSw
            go_simp
            try with_reducible rfl
          try simp only [Act.put]
          refine AnyBut.takeS (i := 9) (v := ?v29) rfl (by kernel_rfl) (Nat.le_of_eq (by kernel_rfl)) (by kernel_rfl) (by kernel_rfl) (fun _ _ _ h => h) (HS0.out) (Or.inl ⟨by rfl, ?hy29⟩) ?r29
          case hy29 =>
            intro w hSw
            try dsimp only at hSw
            go_simp
            try with_reducible rfl
          try simp only [Act.put]
          refine AnyBut.one (i := 10) (by kernel_rfl) rfl (fun K hK => ?_)
          go_simp
          go_wp2_with fail
          refine HCA.out.mono ?_
          rintro e w4 ⟨rfl, k4⟩
          have HK4 := Lib.hid (((Kept.refl (fun _ => False) wr).drew).trans k4)
          have HS4 := Lib.hid (HSS.out _ HK4.out)
          clear k4
          go_wp2
          refine hK.out _ _ (HS4.out) ?_
          clear hK K
          try simp only [Act.put, List.setIfInBounds_toArray, List.set_cons_zero, List.set_cons_succ]
          refine AnyBut.takeS (i := 11) (v := ?v30) rfl (by kernel_rfl) (Nat.le_of_eq (by kernel_rfl)) (by kernel_rfl) (by kernel_rfl) (fun _ _ _ h => h) (HS4.out) (Or.inl ⟨by rfl, ?hy30⟩) ?r30
          case hy30 =>
            intro w hSw
            try dsimp only at hSw
            go_simp
            try with_reducible rfl
          try simp only [Act.put, List.setIfInBounds_toArray]
          refine AnyBut.done (by kernel_rfl) ?_
          have HS1 := Lib.hid (And.intro (HSR.out.on HK4.out) (HKW.out.trans HK4.out))
          obtain ⟨⟨z0, z1⟩, f0, f1⟩ := HS1.out.1.r.c
          go_wp2
          refine side2_end (o := 0) (v := .slice none 0 0) Try.results48 rfl rfl rfl (HS1.out.1.r.set 0 (.slice none 0 0)) ?_
          exact ⟨false, 0, [], _, .inr ⟨rfl, HN.out, rfl, rfl⟩, rfl, Mine.nil' _ (two_kept HS1.out.2 (by omega))⟩
      · obtain rfl : i = l2.length := by omega
        have HHAS : Hid (hasS o1 l1 o2 l2) := Lib.hid hP
        obtain ⟨e1, e2⟩ := HSPAN.out hP
        subst e1 e2
        have hat := BothAt.mk0 hsb hkw (Kept.refl _ _) F
        obtain ⟨p, hp⟩ : ∃ p, p = wr.heap.size := ⟨_, rfl⟩
        obtain ⟨wb, hwb⟩ : ∃ wb, wb = wr.alloc (.cells #[.int .i64 F, .slice none 0 0] 25) := ⟨_, rfl⟩
        rw [← hwb, ← hp] at hat
        have HAT := Lib.hid hat
        have HWB := Lib.hid hwb
        have HP := Lib.hid hp
        clear hat hwb hp hd hP hsb hkw
        go_wp2
        rw [← HWB.out, ← HP.out]
        obtain ⟨N, hN⟩ : ∃ N, N = l1.length := ⟨_, rfl⟩
        have HNL := Lib.hid (show N = l1.length ∧ N ≤ 160 from ⟨hN, by have := HL.out; omega⟩)
        obtain ⟨gf, hgf⟩ : ∃ g : Int → Nat, g = fun i => atN F l1 i - atN o2 l2 i := ⟨_, rfl⟩
        have HALL : Hid (∀ i, atN o2 l2 i ≤ atN F l1 i ∧ gf i = atN F l1 i - atN o2 l2 i ∧ atN F l1 i < 18446744073709551616) := Lib.hid fun i => ⟨has_all HHAS.out i, by rw [hgf], by
          unfold atN; split
          · exact getD_u64 HB1.out.1 _
          · omega⟩
        have HLS : Hid (rowF F N gf = lsL F l1 o2 l2) := Lib.hid (by rw [hN, hgf]; rfl)
        clear hgf hN
        go_loopg [11, 45, 46, 47, 48, 49, 50, 51, 52, 53, 54, 55, 56, 57, 58, 59, 60, 61, 62, 63, 64, 65, 66, 67] N (fun g' s11 s45 s46 s47 s48 s49 s50 s51 s52 s53 s54 s55 s56 s57 s58 s59 s60 s61 s62 s63 s64 s65 s66 s67 wx => ∃ (m : Nat) (v3 : Value), m ≤ N ∧ g' = N - m ∧ s11 = .int .i64 (F + (m : Int)) ∧ BothAt w wx p F o2 0 F (.slice ao l1.length c) (.slice bo l2.length d) (.slice none 0 0) v3 (rowF F m gf))
        case atStart => exact ⟨0, _, Nat.zero_le _, rfl, by simp, HAT.out⟩
        case round =>
          obtain ⟨m, v3, hml, rfl, rfl, hat⟩ := hrel
          have t5 : IntKind.i64.wrap (F + 400) = F + 400 := IntWalk.i64_in _ ⟨by omega, by omega⟩
          by_cases hd : m < N
          · have HD := Lib.hid hd
            obtain ⟨a3, q3, rfl⟩ := hat.own.slice
            obtain ⟨L, hL⟩ : ∃ L, L = rowF F m gf := ⟨_, rfl⟩
            rw [← hL] at hat
            have HLL := Lib.hid (show L.length ≤ 1000 by rw [hL, rowF_length]; have := HNL.out; omega)
            have HD0 := Lib.hid (hat.on ((Kept.refl (fun _ => False) wr).drew))
            obtain ⟨i, hi⟩ : ∃ i, i = F + (m : Int) := ⟨_, rfl⟩
            rw [← hi]
            have hnl := HNL.out
            have qT : i ≤ F + (l1.length : Int) - 1 := by omega
            have qF : i < F + 400 := by omega
            have HI := Lib.hid (show -1000000000000 ≤ i ∧ i ≤ 1000000000000 by omega)
            obtain ⟨g1, g2, g3⟩ := HALL.out i
            obtain ⟨A1, hA1⟩ : ∃ x, x = atN F l1 i := ⟨_, rfl⟩
            obtain ⟨A2, hA2⟩ : ∃ x, x = atN o2 l2 i := ⟨_, rfl⟩
            obtain ⟨Y, hY⟩ : ∃ Y, Y = gf i := ⟨_, rfl⟩
            rw [← hA1, ← hA2] at g1 g2
            rw [← hY] at g2
            rw [← hA1] at g3
            have u1 : IntKind.u64.wrap ((A1 : Int) - (A2 : Int)) = (Y : Int) := by rw [IntKind.wrap_u64]; omega
            have u2 : (A1 : Int) - (A2 : Int) = (Y : Int) := by omega
            have u3 : IntKind.u64.wrap (Y : Int) = (Y : Int) := by rw [IntKind.wrap_u64]; omega
            have ha1 := fun w' k => HA1.out w' k i HI.out
            have ha2 := fun w' k => HA2.out w' k i HI.out
            rw [← hA1] at ha1
            rw [← hA2] at ha2
            have HB1 := Lib.hid ha1
            have HB2 := Lib.hid ha2
            have HNEXT := Lib.hid (show rowF F (m + 1) gf = L ++ [Y] by rw [rowF_succ, hL, hY, hi])
            have i1 : i + 1 = F + ((m + 1 : Nat) : Int) := by omega
            have i2 : IntKind.i64.wrap (i + 1) = i + 1 := IntWalk.i64_in _ ⟨by omega, by omega⟩
            have I1 := Lib.hid i1
            clear ha1 ha2 hA1 hA2 hY g1 g2 g3 hL hd hnl i1 hat hi
            go_wp2
            refine AnyBut.start (S := fun w' => w'.cell? ⟨p, 1, none⟩ = some (.slice a3 (uvals L).length q3) ∧ (w'.cell? ⟨w.heap.size, 0, none⟩ = some (.int .i64 F) ∧ w'.cell? ⟨w.heap.size, 1, none⟩ = some (.slice ao l1.length c)) ∧ (w'.cell? ⟨w.heap.size + 1, 0, none⟩ = some (.int .i64 o2) ∧ w'.cell? ⟨w.heap.size + 1, 1, none⟩ = some (.slice bo l2.length d))) (k := 12) (by kernel_rfl) ?_
            refine AnyBut.take (i := 0) (v := ?v12) rfl (by kernel_rfl) (by kernel_rfl) (by kernel_rfl) (by kernel_rfl) (fun _ _ _ h => h) (HD0.out.cells) (Or.inl ⟨by rfl, ?hy12⟩) ?r12
            case hy12 =>
              intro w hSw
              try dsimp only at hSw
              go_simp
              try with_reducible rfl
            try simp only [Act.put, List.setIfInBounds_toArray]
            refine AnyBut.take (i := 1) (v := ?v13) rfl (by kernel_rfl) (by kernel_rfl) (by kernel_rfl) (by kernel_rfl) (fun _ _ _ h => h) (HD0.out.cells) (Or.inl ⟨by rfl, ?hy13⟩) ?r13
            case hy13 =>
              intro w hSw
              try dsimp only at hSw
              go_simp
              try with_reducible rfl
            try simp only [Act.put]
            refine AnyBut.take (i := 2) (v := ?v14) rfl (by kernel_rfl) (by kernel_rfl) (by kernel_rfl) (by kernel_rfl) (fun _ _ _ h => h) (HD0.out.cells) (Or.inl ⟨by rfl, ?hy14⟩) ?r14
            case hy14 =>
              intro w hSw
              try dsimp only at hSw
              go_simp
              try with_reducible rfl
            try simp only [Act.put]
            refine AnyBut.take (i := 3) (v := ?v15) rfl (by kernel_rfl) (by kernel_rfl) (by kernel_rfl) (by kernel_rfl) (fun _ _ _ h => h) (HD0.out.cells) (Or.inl ⟨by rfl, ?hy15⟩) ?r15
            case hy15 =>
              intro w hSw
              try dsimp only at hSw
              go_simp
              try with_reducible rfl
            try simp only [Act.put]
            refine AnyBut.take (i := 5) (v := ?v16) rfl (by kernel_rfl) (by kernel_rfl) (by kernel_rfl) (by kernel_rfl) (fun _ _ _ h => h) (HD0.out.cells) (Or.inl ⟨by rfl, ?hy16⟩) ?r16
            case hy16 =>
              intro w hSw
              try dsimp only at hSw
              go_simp
              try with_reducible rfl
            try simp only [Act.put]
            refine AnyBut.take (i := 6) (v := ?v17) rfl (by kernel_rfl) (by kernel_rfl) (by kernel_rfl) (by kernel_rfl) (fun _ _ _ h => h) (HD0.out.cells) (Or.inl ⟨by rfl, ?hy17⟩) ?r17
            case hy17 =>
              intro w hSw
              try dsimp only at hSw
              go_simp
              try with_reducible rfl
            try simp only [Act.put]
            refine AnyBut.one (i := 4) (by kernel_rfl) rfl (fun K hK => ?_)
            go_simp
            go_wp2_with fail
            refine (HB1.out _ (HV1.out.kept HD0.out.own.kept (fun _ _ x => x))).mono ?_
            rintro e w4 ⟨rfl, k4⟩
            have HD4 := Lib.hid (HD0.out.on k4)
            clear k4
            go_wp2
            refine hK.out _ _ (HD4.out.cells) ?_
            clear hK K
            try simp only [Act.put, List.setIfInBounds_toArray, List.set_cons_zero, List.set_cons_succ]
            refine AnyBut.one (i := 7) (by kernel_rfl) rfl (fun K hK => ?_)
            go_simp
            go_wp2_with fail
            refine (HB2.out _ (HV2.out.kept HD4.out.own.kept (fun _ _ x => x))).mono ?_
            rintro e w7 ⟨rfl, k7⟩
            have HD7 := Lib.hid (HD4.out.on k7)
            clear k7
            go_wp2
            refine hK.out _ _ (HD7.out.cells) ?_
            clear hK K
            try simp only [Act.put, List.setIfInBounds_toArray, List.set_cons_zero, List.set_cons_succ]
            refine AnyBut.take (i := 8) (v := ?v18) rfl (by kernel_rfl) (by kernel_rfl) (by kernel_rfl) (by kernel_rfl) (fun _ _ _ h => h) (HD7.out.cells) (Or.inl ⟨by rfl, ?hy18⟩) ?r18
            case hy18 =>
              intro w hSw
              try dsimp only at hSw
              go_simp
              try with_reducible rfl
            try simp only [Act.put, List.setIfInBounds_toArray]
            refine AnyBut.one (i := 9) (by kernel_rfl) rfl (fun K hK => ?_)
            go_simp
            have HD9 := Lib.hid (HD7.out.on ((Kept.refl (fun _ => False) w7).alloc (.cells #[(.int .u64 (Y : Int))] 22)))
            have HSRC := Lib.hid (src_oneU w7 (.int .u64 (Y : Int)) rfl)
            refine hK.out _ _ (HD9.out.cells) ?_
            clear hK K
            try simp only [Act.put, List.setIfInBounds_toArray, List.set_cons_zero, List.set_cons_succ]
            refine AnyBut.one (i := 10) (by kernel_rfl) rfl (fun K hK => ?_)
            refine step_mineU (by rfl) (.tmp 57) (.tmp 65) (by rfl) w _ _ (by rfl) HD9.out.own _ [(.int .u64 (Y : Int))] (by rfl) HSRC.out (by have := HLL.out; simp only [List.length_singleton, uvals_length]; omega) ?_
            intro v8 w8 hm8 hk8 _
            have HM8 := Lib.hid hm8
            have hd8 := HD9.out.grow hk8
            have HD8 := Lib.hid hd8
            obtain ⟨a8, c8, rfl⟩ := hm8.slice
            obtain ⟨⟨_, g1⟩, g2, g3⟩ := hd8.b4.c
            clear hm8 hk8 hd8
            refine hK.out _ _ (HD8.out.cells) ?_
            clear hK K
            try simp only [Act.put, List.setIfInBounds_toArray]
            refine AnyBut.take (i := 11) (v := ?v19) rfl (by kernel_rfl) (by kernel_rfl) (by kernel_rfl) (by kernel_rfl) (fun _ _ _ h => h) (HD8.out.cells) (Or.inl ⟨by rfl, ?hy19⟩) ?r19
            case hy19 =>
              intro w hSw
              try dsimp only at hSw
              go_simp
              try with_reducible rfl
            try simp only [Act.put]
            refine AnyBut.last (by kernel_rfl) rfl (by kernel_rfl) (fun K hK => ?_)
            go_simp
            refine hK.out _ _ ?_
            clear hK K
            try simp only [Act.put, List.setIfInBounds_toArray, List.set_cons_zero, List.set_cons_succ]
            go_wp2
            have hm8 := HM8.out
            rw [List.length_append, List.length_singleton] at hm8
            have HF := Lib.hid (BothBx.set1 (l' := L ++ [Y]) HD8.out (by rw [uvals_append]; exact hm8))
            clear hm8
            go_roundg (N - (m + 1))
            case measure => have := HD.out; omega
            case rel => exact ⟨m + 1, _, HD.out, rfl, by rw [I1.out], by rw [HNEXT.out]; exact HF.out⟩
          · obtain rfl : m = N := by omega
            have qT : ¬ F + (m : Int) ≤ F + (l1.length : Int) - 1 := by have := HNL.out; omega
            obtain ⟨a3, q3, rfl⟩ := hat.own.slice
            rw [HLS.out] at hat
            have hll : (lsL F l1 o2 l2).length = l1.length := by unfold lsL; simp
            have hcap : ∀ a n c, Value.slice a3 (uvals (lsL F l1 o2 l2)).length q3 = .slice a n c → n ≤ c := fun a n c e => by
              have := own_cap hat.own.own
              injection e with e1 e2 e3
              omega
            have htr := refTrim_any F (lsL F l1 o2 l2) _ wr hat.own.at_ hcap ⟨by omega, by omega⟩ (by rw [hll]; have := HL.out; omega)
            have HT := Lib.hid htr
            have HA := Lib.hid hat
            obtain ⟨⟨p0, p1⟩, _⟩ := hat.bx.b4.c
            clear hat hd htr hll hcap
            go_wp2_with fail
            refine HT.out.mono ?_
            rintro e w5 ⟨o5, l5, v5, ht5, rfl, hm5⟩
            have HT5 := Lib.hid ht5
            have HM5 := Lib.hid hm5
            have hr5 := HA.out.bx.r.same hm5.kept (fun x => x)
            have HR5 := Lib.hid hr5
            obtain ⟨⟨z0, z1⟩, f0, f1⟩ := hr5.c
            obtain ⟨a5, q5, rfl⟩ := hm5.slice
            clear ht5 hm5 hr5
            go_wp2
            refine side2_end (o := o5) (v := .slice a5 (uvals l5).length q5) Try.results48 rfl rfl rfl (HR5.out.set o5 (.slice a5 (uvals l5).length q5)) ?_
            exact ⟨true, o5, l5, _, .inl ⟨rfl, HHAS.out, HT5.out⟩, rfl, (HM5.out.down HA.out.own.kept).setBox HR5.out (by decide) (by omega) _ _⟩
end Go.Proofs.Ytbjpcddnjndjlaa
