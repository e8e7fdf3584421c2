/- Layer 32: the walk of GlobMatches (written by tools/gen_XDO.py). -/
import Derived.Test.YtjbjfdmdicfjfaaDN
import Derived.Test.YtjbjfdmdicfjfaaDE
namespace Go.Proofs.Ytjbjfdmdicfjfaa
open Go.RowKit
attribute [local go_sem ↓] Go.wp_at_zero Go.wp_at_succ

set_option maxHeartbeats 8000000 in
set_option maxRecDepth 100000 in
theorem globMatches_walk (p s : ByteArray) (w : World) (hp : p.size ≤ 9223372036854775807) (hs : s.size ≤ 9223372036854775807) :
    Calls Try.prog 4 #[.string p, .string s] w fun e w' => e = .returned (.bool true) ∧ Kept (fun _ => False) w w' := by
  have HA := Lib.hid (awake32_any w)
  by_cases h1 : 64 < p.size
  · have q1 : (64 : Int) < (p.size : Int) := by omega
    have q1' : decide (64 < p.size) = true := decide_eq_true h1
    clear hp hs h1
    go_enter Try.func4, Try.ntmps4
    go_wp2_with fail
    refine HA.out.mono ?_
    rintro e w1 ⟨rfl, k1⟩
    go_wp2
    go_ret
    exact ⟨rfl, k1⟩
  have q1 : ¬ (64 : Int) < (p.size : Int) := by omega
  have q1' : decide (64 < p.size) = false := decide_eq_false h1
  by_cases h2 : 300 < s.size
  · have q2 : (300 : Int) < (s.size : Int) := by omega
    have q2' : decide (300 < s.size) = true := decide_eq_true h2
    clear hp hs h1 h2
    go_enter Try.func4, Try.ntmps4
    go_wp2_with fail
    refine HA.out.mono ?_
    rintro e w1 ⟨rfl, k1⟩
    go_wp2
    go_ret
    exact ⟨rfl, k1⟩
  have q2 : ¬ (300 : Int) < (s.size : Int) := by omega
  have q2' : decide (300 < s.size) = false := decide_eq_false h2
  have C1 := Lib.hid (fun w => compile_any p w (by omega))
  have C2 := Lib.hid (fun w => rcompile_any p w (by omega))
  have HSZ := Lib.hid (show s.size ≤ 300 by omega)
  clear hp hs h1 h2
  go_enter Try.func4, Try.ntmps4
  go_wp2_with fail
  refine HA.out.mono ?_
  rintro e w1 ⟨rfl, k1⟩
  have K1 := Lib.hid k1
  clear k1
  cases hc : compS p with
  | bad x y =>
    rw [hc] at C1 C2
    clear hc
    go_wp2_with fail
    refine (C1.out _).mono ?_
    rintro e w2 ⟨k2, rfl, hy⟩
    have K2 := Lib.hid (K1.out.trans k2)
    clear k2
    have hy0 : ((y : Int) != 0) = true := bneT (by omega)
    go_wp2_with fail
    refine (C2.out _).mono ?_
    rintro e w3 ⟨k3, rfl, _⟩
    have K3 := Lib.hid (K2.out.trans k3)
    clear k3 hy
    go_wp2
    go_ret
    exact ⟨rfl, K3.out.alloc _⟩
  | good ps =>
    rw [hc] at C1 C2
    clear hc
    go_wp2_with fail
    refine (C1.out _).mono ?_
    rintro e w2 ⟨k2, gb, L, hL, hG, _, rfl⟩
    have K2 := Lib.hid (K1.out.trans k2)
    have HL := Lib.hid hL
    have HG := Lib.hid hG
    clear k2 hL hG
    go_wp2_with fail
    refine (C2.out _).mono ?_
    rintro e w3 ⟨k3, a, cp, R, hR, hRl, hRs, rfl⟩
    have K3 := Lib.hid (K2.out.trans k3)
    obtain ⟨w4, hw4⟩ : ∃ w4, w4 = w3.alloc (.cells #[.slice a R.length cp, .int .i64 0, .int .i64 0] 29) := ⟨_, rfl⟩
    have k4 : Kept (fun _ => False) w3 w4 := by rw [hw4]; exact (Kept.refl _ _).alloc _
    obtain ⟨q8, hq8⟩ : ∃ q, q = w3.heap.size := ⟨_, rfl⟩
    have hb : w4.heap[q8]? = some (.cells #[.slice a R.length cp, .int .i64 0, .int .i64 0] 29 (0, 0)) := by rw [hw4, hq8]; exact heap_alloc_new w3 _
    have y0 : w4.cell? ⟨q8, 0, none⟩ = some (.slice a R.length cp) := by rw [cell_of_row _ _ _ _ _ _ hb]; rfl
    have y2 : w4.cell? ⟨q8, 2, none⟩ = some (.int .i64 0) := by rw [cell_of_row _ _ _ _ _ _ hb]; rfl
    have HM1 := Lib.hid (fun w (k : Kept (fun _ => False) w4 w) => match_any gb p s L w ((HG.out.kept (k3.trans k4)).kept k) (by have := HSZ.out; omega))
    have HM2 := Lib.hid (fun w (k : Kept (fun _ => False) w4 w) => rmatch_any a cp R s w ((hRs.kept k4).kept k) hRl (by have := HSZ.out; omega))
    rw [HL.out] at HM1
    rw [hR] at HM2
    obtain ⟨B, hB⟩ : ∃ B, B = mt ps (bl s) := ⟨_, rfl⟩
    rw [← hB] at HM1 HM2
    have K4 := Lib.hid (K3.out.trans k4)
    have HW4 := Lib.hid hw4.symm
    have HQ8 := Lib.hid hq8
    have HSS := Lib.hid (show (fun w' => w'.cell? ⟨q8, 0, none⟩ = some (.slice a R.length cp) ∧ Kept (fun _ => False) w4 w') w4.drew from ⟨y0, (Kept.refl (fun _ => False) w4).drew⟩)
    clear k3 hRs hR hRl hB hw4 k4 hq8 hb
    go_upto_region 7 with fail
    rw [HW4.out, ← HQ8.out]
    go_upto_region 9 with fail
    clear y0 y2
    refine AnyBut.start (S := fun w' => w'.cell? ⟨q8, 0, none⟩ = some (.slice a R.length cp) ∧ Kept (fun _ => False) w4 w') (k := 9) (by kernel_rfl) ?_
    refine AnyBut.takeS (i := 0) (v := ?v1) rfl (by kernel_rfl) (Nat.le_of_eq (by kernel_rfl)) (by kernel_rfl) (by kernel_rfl) (fun _ _ _ h => h) (HSS.out) (Or.inl ⟨by kernel_rfl, ?hy1⟩) ?r1
    case hy1 =>
      intro w hSw
      try dsimp only at hSw
      go_simp
      try (obtain ⟨y0, _⟩ := hSw; go_simp)
      try with_reducible rfl
    try simp only [Act.put, List.getElem_toArray, List.getElem_cons_zero, List.setIfInBounds_toArray, List.set_cons_zero, List.set_cons_succ]
    refine AnyBut.takeS (i := 1) (v := ?v2) rfl (by kernel_rfl) (Nat.le_of_eq (by kernel_rfl)) (by kernel_rfl) (by kernel_rfl) (fun _ _ _ h => h) (HSS.out) (Or.inl ⟨by kernel_rfl, ?hy2⟩) ?r2
    case hy2 =>
      intro w hSw
      try dsimp only at hSw
      go_simp
      try (obtain ⟨y0, _⟩ := hSw; go_simp)
      try with_reducible rfl
    try simp only [Act.put, List.getElem_toArray, List.getElem_cons_succ, List.getElem_cons_zero, List.setIfInBounds_toArray, List.set_cons_zero, List.set_cons_succ]
    refine AnyBut.takeS (i := 3) (v := ?v3) rfl (by kernel_rfl) (Nat.le_of_eq (by kernel_rfl)) (by kernel_rfl) (by kernel_rfl) (fun _ _ _ h => h) (HSS.out) (Or.inl ⟨by kernel_rfl, ?hy3⟩) ?r3
    case hy3 =>
      intro w hSw
      try dsimp only at hSw
      go_simp
      try (obtain ⟨y0, _⟩ := hSw; go_simp)
      try with_reducible rfl
    try simp only [Act.put, List.getElem_toArray, List.getElem_cons_succ, List.getElem_cons_zero, List.setIfInBounds_toArray, List.set_cons_zero, List.set_cons_succ]
    refine AnyBut.takeS (i := 4) (v := ?v4) rfl (by kernel_rfl) (Nat.le_of_eq (by kernel_rfl)) (by kernel_rfl) (by kernel_rfl) (fun _ _ _ h => h) (HSS.out) (Or.inl ⟨by kernel_rfl, ?hy4⟩) ?r4
    case hy4 =>
      intro w hSw
      try dsimp only at hSw
      go_simp
      try (obtain ⟨y0, _⟩ := hSw; go_simp)
      try with_reducible rfl
    try simp only [Act.put, List.getElem_toArray, List.getElem_cons_succ, List.getElem_cons_zero, List.setIfInBounds_toArray, List.set_cons_zero, List.set_cons_succ]
    refine AnyBut.takeS (i := 5) (v := ?v5) rfl (by kernel_rfl) (Nat.le_of_eq (by kernel_rfl)) (by kernel_rfl) (by kernel_rfl) (fun _ _ _ h => h) (HSS.out) (Or.inl ⟨by kernel_rfl, ?hy5⟩) ?r5
    case hy5 =>
      intro w hSw
      try dsimp only at hSw
      go_simp
      try (obtain ⟨y0, _⟩ := hSw; go_simp)
      try with_reducible rfl
    try simp only [Act.put, List.getElem_toArray, List.getElem_cons_succ, List.getElem_cons_zero, List.setIfInBounds_toArray, List.set_cons_zero, List.set_cons_succ]
    refine AnyBut.one (i := 2) (by kernel_rfl) rfl (fun K hK => ?_)
    go_simp
    go_wp2_with fail
    refine (HM1.out _ HSS.out.2).mono ?_
    rintro e w5 ⟨rfl, k5⟩
    have HS5 := Lib.hid (And.intro (k5.cell HSS.out.1 (fun x => x)) (HSS.out.2.trans k5))
    clear k5
    refine hK.out _ _ (HS5.out) ?_
    clear hK K
    try simp only [Act.put, List.getElem_toArray, List.getElem_cons_succ, List.getElem_cons_zero, List.setIfInBounds_toArray, List.set_cons_zero, List.set_cons_succ]
    refine AnyBut.one (i := 6) (by kernel_rfl) rfl (fun K hK => ?_)
    go_simp
    go_wp2_with fail
    refine (HM2.out _ HS5.out.2).mono ?_
    rintro e w6 ⟨rfl, k6⟩
    have HS6 := Lib.hid (And.intro (k6.cell HS5.out.1 (fun x => x)) (HS5.out.2.trans k6))
    clear k6
    refine hK.out _ _ (HS6.out) ?_
    clear hK K
    try simp only [Act.put, List.getElem_toArray, List.getElem_cons_succ, List.getElem_cons_zero, List.setIfInBounds_toArray, List.set_cons_zero, List.set_cons_succ]
    refine AnyBut.takeS (i := 7) (v := ?v6) rfl (by kernel_rfl) (Nat.le_of_eq (by kernel_rfl)) (by kernel_rfl) (by kernel_rfl) (fun _ _ _ h => h) (HS6.out) (Or.inl ⟨by kernel_rfl, ?hy6⟩) ?r6
    case hy6 =>
      intro w hSw
      try dsimp only at hSw
      go_simp
      try (obtain ⟨y0, _⟩ := hSw; go_simp)
      try with_reducible rfl
    try simp only [Act.put, List.getElem_toArray, List.getElem_cons_succ, List.getElem_cons_zero, List.setIfInBounds_toArray, List.set_cons_zero, List.set_cons_succ]
    refine AnyBut.takeS (i := 8) (v := ?v7) rfl (by kernel_rfl) (Nat.le_of_eq (by kernel_rfl)) (by kernel_rfl) (by kernel_rfl) (fun _ _ _ h => h) (HS6.out) (Or.inl ⟨by kernel_rfl, ?hy7⟩) ?r7
    case hy7 =>
      intro w hSw
      try dsimp only at hSw
      go_simp
      try (obtain ⟨y0, _⟩ := hSw; go_simp)
      try with_reducible rfl
    try simp only [Act.put, List.getElem_toArray, List.getElem_cons_succ, List.getElem_cons_zero, List.setIfInBounds_toArray, List.set_cons_zero, List.set_cons_succ]
    refine AnyBut.done (by kernel_rfl) ?_
    go_wp2
    go_ret
    exact ⟨by simp, K4.out.trans HS6.out.2⟩
end Go.Proofs.Ytjbjfdmdicfjfaa

