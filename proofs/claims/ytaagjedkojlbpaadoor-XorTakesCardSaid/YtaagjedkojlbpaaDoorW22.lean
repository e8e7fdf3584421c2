/- package limnographref07: Get, where little is read. -/
import Derived.Test.YtaagjedkojlbpaaDoorW21
import Derived.Test.YtaagjedkojlbpaaDoorG2
namespace Go.Proofs.YtaagjedkojlbpaaDoor
open Go.RowKit
attribute [local go_sem ↓] Go.wp_at_zero Go.wp_at_succ

theorem take_eq (P l : List Bool) (N : Nat) (hP : P.length = N) (hl : N ≤ l.length) (h : ∀ j, j < N → P.getD j false = l.getD j false) : P = l.take N := by
  apply List.ext_getElem?
  intro j
  rw [List.getElem?_take]
  by_cases hj : j < N
  · rw [if_pos hj]
    have := h j hj
    rw [List.getD_eq_getElem?_getD, List.getD_eq_getElem?_getD, List.getElem?_eq_getElem (by omega), List.getElem?_eq_getElem (by omega)] at this
    rw [List.getElem?_eq_getElem (by omega), List.getElem?_eq_getElem (by omega)]
    simpa using this
  · rw [if_neg hj, List.getElem?_eq_none (by omega)]
theorem bne_bits (a b : Bool) (x y : Nat) (hx : x = a.toNat) (hy : y = b.toNat) (h : ¬ a = b) : ((x : Int) != (y : Int)) = true := by
  subst hx; subst hy
  cases a <;> cases b <;> first | rfl | exact absurd rfl h
set_option maxHeartbeats 4000000 in
set_option maxRecDepth 100000 in
theorem rget_c1 (sv : Value) (l0 : List Nat) (f s : Nat) (lo : Option Addr) (lc : Nat) (l : List Bool) (w : World) (hs : SlAt w sv (xvals l0)) (hv : SlAt w (.slice lo l.length lc) (ints l)) (hcap : l.length ≤ lc) (hl0 : l0.length ≤ 1000000) (hl : l.length ≤ 100000000) (h0 : 1 ≤ l0.length) (hb : ∀ x ∈ l0, x < 18446744073709551616) (h : l.length = 0) :
    Calls Tryd.prog 42 #[stV sv f s, .slice lo l.length lc] w (RGot w l0 0 0 2 f s) := by
  obtain ⟨ao, ca, rfl, hvr⟩ := hs.val
  clear hvr
  rw [xvals_length] at hs ⊢
  have k0 := ((Kept.refl (fun _ => False) w).alloc (.cells #[.slice ao l0.length ca, .int .i64 (f : Int), .int .i64 (s : Int)] 63)).alloc (.cells #[.int .u64 0, .int .i64 0, .slice none 0 0, .int .i64 0, .int .i64 0, .int .i64 0] 69)
  obtain ⟨wb, hwb⟩ : ∃ w', w' = (w.alloc (.cells #[.slice ao l0.length ca, .int .i64 (f : Int), .int .i64 (s : Int)] 63)).alloc (.cells #[.int .u64 0, .int .i64 0, .slice none 0 0, .int .i64 0, .int .i64 0, .int .i64 0] 69) := ⟨_, rfl⟩
  have kk := fun (w : World) o => (Kept.refl (fun _ => False) w).alloc o
  have b1 : StBox wb w.heap.size (.slice ao l0.length ca) f s := by
    rw [hwb]
    exact (show StBox (w.alloc (.cells #[.slice ao l0.length ca, .int .i64 (f : Int), .int .i64 (s : Int)] 63)) w.heap.size (.slice ao l0.length ca) f s from heap_alloc_new w _).same (kk _ _) (fun x => x)
  have b3 : GBox wb (w.heap.size + 1) 0 0 (.slice none 0 0) 0 0 0 := by
    rw [hwb]
    have := heap_alloc_new (w.alloc (.cells #[.slice ao l0.length ca, .int .i64 (f : Int), .int .i64 (s : Int)] 63)) (.cells #[.int .u64 0, .int .i64 0, .slice none 0 0, .int .i64 0, .int .i64 0, .int .i64 0] 69)
    rw [show (w.alloc (.cells #[.slice ao l0.length ca, .int .i64 (f : Int), .int .i64 (s : Int)] 63)).heap.size = w.heap.size + 1 by simp] at this
    exact this
  rw [← hwb] at k0
  obtain ⟨m, hm⟩ : ∃ m, m = l0.length := ⟨_, rfl⟩
  rw [← hm] at b1 hwb ⊢
  have HBX := Lib.hid fun w' (k : Kept (fun _ => False) wb w') => And.intro (b1.same k (fun x => x)) (b3.same k (fun x => x))
  have HQ := Lib.hid (show w.heap.size + 1 < wb.heap.size from (Array.getElem?_eq_some_iff.1 b3).1)
  have HK0 := Lib.hid k0
  have hsb := hs.kept k0 (fun _ _ x => x)
  have hvb := hv.kept k0 (fun _ _ x => x)
  have HW := Lib.hid hwb
  obtain ⟨d0, d1, d2⟩ := b1.c
  have HLX : Hid (∀ x, (xvals (l0 ++ [x])).length = m + 1) := Lib.hid fun x => by rw [hm]; simp
  have hrefl := Kept.refl (fun _ => False) wb
  have HRF := Lib.hid hrefl
  clear hwb kk b1 b3 hrefl
  have n0 : ((m : Int) == 0) = false := by rw [hm]; exact beq_eq_false_iff_ne.2 (by omega)
  have hlw : ∀ w' (_ : Kept (fun _ => False) wb w'), _ := fun w' k => rlast_any _ l0 f s w' (hsb.kept k (fun _ _ x => x)) hl0
  obtain ⟨L, hL⟩ : ∃ L, L = lastN l0 l0.length := ⟨_, rfl⟩
  have HLAST := Lib.hid hlw
  rw [← hm] at hL HLAST
  rw [← hL] at HLAST
  have huse := And.intro h0 (And.intro hcap (And.intro hl hb))
  clear huse
  unfold stV at HLAST
  obtain ⟨n, hn⟩ : ∃ n, n = l.length := ⟨_, rfl⟩
  have HNN := Lib.hid hn
  clear hlw
  have q1 : (n : Int) < 1 := by omega
  have q1b : decide (n < 1) = true := decide_eq_true (by omega)
  rw [← hn]
  obtain ⟨g0, g1, g2, g3, g4, g5⟩ := (HBX.out _ HRF.out).2.c
  have y0 := (HBX.out _ HRF.out).2.f 0
  have y1 := (HBX.out _ HRF.out).2.f 1
  have y2 := (HBX.out _ HRF.out).2.f 2
  have y3 := (HBX.out _ HRF.out).2.f 3
  have y4 := (HBX.out _ HRF.out).2.f 4
  have y5 := (HBX.out _ HRF.out).2.f 5
  unfold stV
  clear hs hv hcap hl0 hl hb h0 k0 hm hsb hvb hL hn h
  go_enter Tryd.func42, Tryd.ntmps42
  go_upto_region 1 with fail
  rw [← HW.out]
  go_wp2
  refine g6_end Tryd.results42 rfl rfl ((HBX.out _ HRF.out).2.set 0 0 (.slice none 0 0) 0 0 2) ?_
  exact ⟨_, 0, 0, 0, 0, rfl, fun h => absurd h (by decide), fun _ => ⟨rfl, rfl, rfl⟩, six_kept (HK0.out.trans HRF.out) (by have := HQ.out; omega) _ _ _ _ _ _⟩
set_option maxHeartbeats 4000000 in
set_option maxRecDepth 100000 in
theorem rget_c2 (sv : Value) (l0 : List Nat) (f s : Nat) (lo : Option Addr) (lc : Nat) (l : List Bool) (w : World) (hs : SlAt w sv (xvals l0)) (hv : SlAt w (.slice lo l.length lc) (ints l)) (hcap : l.length ≤ lc) (hl0 : l0.length ≤ 1000000) (hl : l.length ≤ 100000000) (h0 : 1 ≤ l0.length) (hb : ∀ x ∈ l0, x < 18446744073709551616) (h : 1 ≤ l.length) (hb0 : l.getD 0 false = false) :
    Calls Tryd.prog 42 #[stV sv f s, .slice lo l.length lc] w (RGot w l0 (lastN l0 l0.length) 1 0 f s) := by
  obtain ⟨ao, ca, rfl, hvr⟩ := hs.val
  clear hvr
  rw [xvals_length] at hs ⊢
  have k0 := ((Kept.refl (fun _ => False) w).alloc (.cells #[.slice ao l0.length ca, .int .i64 (f : Int), .int .i64 (s : Int)] 63)).alloc (.cells #[.int .u64 0, .int .i64 0, .slice none 0 0, .int .i64 0, .int .i64 0, .int .i64 0] 69)
  obtain ⟨wb, hwb⟩ : ∃ w', w' = (w.alloc (.cells #[.slice ao l0.length ca, .int .i64 (f : Int), .int .i64 (s : Int)] 63)).alloc (.cells #[.int .u64 0, .int .i64 0, .slice none 0 0, .int .i64 0, .int .i64 0, .int .i64 0] 69) := ⟨_, rfl⟩
  have kk := fun (w : World) o => (Kept.refl (fun _ => False) w).alloc o
  have b1 : StBox wb w.heap.size (.slice ao l0.length ca) f s := by
    rw [hwb]
    exact (show StBox (w.alloc (.cells #[.slice ao l0.length ca, .int .i64 (f : Int), .int .i64 (s : Int)] 63)) w.heap.size (.slice ao l0.length ca) f s from heap_alloc_new w _).same (kk _ _) (fun x => x)
  have b3 : GBox wb (w.heap.size + 1) 0 0 (.slice none 0 0) 0 0 0 := by
    rw [hwb]
    have := heap_alloc_new (w.alloc (.cells #[.slice ao l0.length ca, .int .i64 (f : Int), .int .i64 (s : Int)] 63)) (.cells #[.int .u64 0, .int .i64 0, .slice none 0 0, .int .i64 0, .int .i64 0, .int .i64 0] 69)
    rw [show (w.alloc (.cells #[.slice ao l0.length ca, .int .i64 (f : Int), .int .i64 (s : Int)] 63)).heap.size = w.heap.size + 1 by simp] at this
    exact this
  rw [← hwb] at k0
  obtain ⟨m, hm⟩ : ∃ m, m = l0.length := ⟨_, rfl⟩
  rw [← hm] at b1 hwb ⊢
  have HBX := Lib.hid fun w' (k : Kept (fun _ => False) wb w') => And.intro (b1.same k (fun x => x)) (b3.same k (fun x => x))
  have HQ := Lib.hid (show w.heap.size + 1 < wb.heap.size from (Array.getElem?_eq_some_iff.1 b3).1)
  have HK0 := Lib.hid k0
  have hsb := hs.kept k0 (fun _ _ x => x)
  have hvb := hv.kept k0 (fun _ _ x => x)
  have HW := Lib.hid hwb
  obtain ⟨d0, d1, d2⟩ := b1.c
  have HLX : Hid (∀ x, (xvals (l0 ++ [x])).length = m + 1) := Lib.hid fun x => by rw [hm]; simp
  have hrefl := Kept.refl (fun _ => False) wb
  have HRF := Lib.hid hrefl
  clear hwb kk b1 b3 hrefl
  have n0 : ((m : Int) == 0) = false := by rw [hm]; exact beq_eq_false_iff_ne.2 (by omega)
  have hlw : ∀ w' (_ : Kept (fun _ => False) wb w'), _ := fun w' k => rlast_any _ l0 f s w' (hsb.kept k (fun _ _ x => x)) hl0
  obtain ⟨L, hL⟩ : ∃ L, L = lastN l0 l0.length := ⟨_, rfl⟩
  have HLAST := Lib.hid hlw
  rw [← hm] at hL HLAST
  rw [← hL] at HLAST
  have huse := And.intro h0 (And.intro hcap (And.intro hl hb))
  clear huse
  unfold stV at HLAST
  obtain ⟨n, hn⟩ : ∃ n, n = l.length := ⟨_, rfl⟩
  have HNN := Lib.hid hn
  clear hlw
  have q1 : ¬ (n : Int) < 1 := by omega
  have q1b : decide (n < 1) = false := decide_eq_false (by omega)
  obtain ⟨g, off, rfl, _⟩ := hvb.elem (ints_get (l := l) (j := 0) (by omega))
  have HCELL := Lib.hid fun w' (k : Kept (fun _ => False) wb w') i (hi : i < l.length) => show w'.cell? ⟨g, off + i, none⟩ = some (.int .i64 (((l.getD i false).toNat : Nat) : Int)) from by
    obtain ⟨g', off', e, c⟩ := (hvb.kept k (fun _ _ x => x)).elem (ints_get hi)
    cases e; exact c
  have cb0 := HCELL.out wb HRF.out 0 (by omega)
  rw [hb0, Nat.add_zero] at cb0
  have HWITH := Lib.hid fun w' (k : Kept (fun _ => False) wb w') => rwith_any _ l0 f s L f s w' (hsb.kept k (fun _ _ x => x)) hl0
  rw [← hm] at HWITH
  have HLX := Lib.hid (HLX.out L)
  unfold stV winV at HWITH
  have z0 : (0 : Int) < (n : Int) := by omega
  rw [← hn, ← hL]
  unfold stV
  clear hs hv hcap hl0 hl hb h0 k0 hm hsb hvb hL hn h hb0
  go_enter Tryd.func42, Tryd.ntmps42
  go_upto_region 1 with fail
  rw [← HW.out]
  go_upto_region 9 with fail
  refine AnyBut.start (S := fun w' => (w'.cell? ⟨w.heap.size, 0, none⟩ = some (.slice ao m ca) ∧ w'.cell? ⟨w.heap.size, 1, none⟩ = some (.int .i64 (f : Int)) ∧ w'.cell? ⟨w.heap.size, 2, none⟩ = some (.int .i64 (s : Int)))) (k := 9) (by kernel_rfl) ?_
  obtain ⟨wd, hwd⟩ : ∃ w', w' = wb.drew := ⟨_, rfl⟩
  have KD := Lib.hid (Kept.trans HRF.out (Kept.refl (fun _ => False) wb).drew)
  rw [← hwd] at KD ⊢
  have HSD := Lib.hid (HBX.out _ KD.out).1.c
  clear hwd
  refine AnyBut.take (i := 0) (v := ?v1) rfl (by kernel_rfl) (by kernel_rfl) (by kernel_rfl) (by kernel_rfl) (fun _ _ _ h => h) (HSD.out) (Or.inl ⟨by kernel_rfl, ?hy1⟩) ?r1
  case hy1 =>
    intro w hSw
    try dsimp only at hSw
    go_simp
    try with_reducible rfl
  try simp only [Act.put, List.getElem_toArray, List.getElem_cons_zero, List.setIfInBounds_toArray, List.set_cons_zero, List.set_cons_succ]
  refine AnyBut.take (i := 2) (v := ?v2) rfl (by kernel_rfl) (by kernel_rfl) (by kernel_rfl) (by kernel_rfl) (fun _ _ _ h => h) (HSD.out) (Or.inl ⟨by kernel_rfl, ?hy2⟩) ?r2
  case hy2 =>
    intro w hSw
    try dsimp only at hSw
    go_simp
    try with_reducible rfl
  try simp only [Act.put, List.getElem_toArray, List.getElem_cons_succ, List.getElem_cons_zero, List.setIfInBounds_toArray, List.set_cons_zero, List.set_cons_succ]
  refine AnyBut.take (i := 3) (v := ?v3) rfl (by kernel_rfl) (by kernel_rfl) (by kernel_rfl) (by kernel_rfl) (fun _ _ _ h => h) (HSD.out) (Or.inl ⟨by kernel_rfl, ?hy3⟩) ?r3
  case hy3 =>
    intro w hSw
    try dsimp only at hSw
    go_simp
    try with_reducible rfl
  try simp only [Act.put, List.getElem_toArray, List.getElem_cons_succ, List.getElem_cons_zero, List.setIfInBounds_toArray, List.set_cons_zero, List.set_cons_succ]
  refine AnyBut.take (i := 5) (v := ?v4) rfl (by kernel_rfl) (by kernel_rfl) (by kernel_rfl) (by kernel_rfl) (fun _ _ _ h => h) (HSD.out) (Or.inl ⟨by kernel_rfl, ?hy4⟩) ?r4
  case hy4 =>
    intro w hSw
    try dsimp only at hSw
    go_simp
    try with_reducible rfl
  try simp only [Act.put, List.getElem_toArray, List.getElem_cons_succ, List.getElem_cons_zero, List.setIfInBounds_toArray, List.set_cons_zero, List.set_cons_succ]
  refine AnyBut.take (i := 6) (v := ?v5) rfl (by kernel_rfl) (by kernel_rfl) (by kernel_rfl) (by kernel_rfl) (fun _ _ _ h => h) (HSD.out) (Or.inl ⟨by kernel_rfl, ?hy5⟩) ?r5
  case hy5 =>
    intro w hSw
    try dsimp only at hSw
    go_simp
    try with_reducible rfl
  try simp only [Act.put, List.getElem_toArray, List.getElem_cons_succ, List.getElem_cons_zero, List.setIfInBounds_toArray, List.set_cons_zero, List.set_cons_succ]
  refine AnyBut.one (i := 1) (by kernel_rfl) rfl (fun K hK => ?_)
  go_simp
  go_wp2_with fail
  refine (HLAST.out _ KD.out).mono ?_
  rintro e w1 ⟨rfl, k1⟩
  have K1 := Lib.hid (KD.out.trans k1)
  clear k1
  have HS1 := Lib.hid (HBX.out _ K1.out).1.c
  go_wp2
  refine hK.out _ _ (HS1.out) ?_
  clear hK K
  try simp only [Act.put, List.getElem_toArray, List.getElem_cons_succ, List.getElem_cons_zero, List.setIfInBounds_toArray, List.set_cons_zero, List.set_cons_succ]
  refine AnyBut.one (i := 4) (by kernel_rfl) rfl (fun K hK => ?_)
  go_simp
  go_wp2_with fail
  refine (HLAST.out _ K1.out).mono ?_
  rintro e w2 ⟨rfl, k2⟩
  have K2 := Lib.hid (K1.out.trans k2)
  clear k2
  have HS2 := Lib.hid (HBX.out _ K2.out).1.c
  go_wp2
  refine hK.out _ _ (HS2.out) ?_
  clear hK K
  try simp only [Act.put, List.getElem_toArray, List.getElem_cons_succ, List.getElem_cons_zero, List.setIfInBounds_toArray, List.set_cons_zero, List.set_cons_succ]
  refine AnyBut.one (i := 7) (by kernel_rfl) rfl (fun K hK => ?_)
  go_simp
  go_wp2_with fail
  refine (HWITH.out _ K2.out).mono ?_
  rintro e w3 ⟨v3, rfl, hm⟩
  obtain ⟨av3, cv3, ev⟩ := hm.slice
  rw [HLX.out] at ev
  subst ev
  have HV3 := Lib.hid (hm.down K2.out)
  clear hm
  have HS3 := Lib.hid (HBX.out _ HV3.out.kept).1.c
  refine hK.out _ _ (HS3.out) ?_
  clear hK K
  try simp only [Act.put, List.getElem_toArray, List.getElem_cons_succ, List.getElem_cons_zero, List.setIfInBounds_toArray, List.set_cons_zero, List.set_cons_succ]
  refine AnyBut.take (i := 8) (v := ?v6) rfl (by kernel_rfl) (by kernel_rfl) (by kernel_rfl) (by kernel_rfl) (fun _ _ _ h => h) (HS3.out) (Or.inl ⟨by kernel_rfl, ?hy6⟩) ?r6
  case hy6 =>
    intro w hSw
    try dsimp only at hSw
    go_simp
    try with_reducible rfl
  try simp only [Act.put, List.getElem_toArray, List.getElem_cons_succ, List.getElem_cons_zero, List.setIfInBounds_toArray, List.set_cons_zero, List.set_cons_succ]
  refine AnyBut.last (by kernel_rfl) rfl (by kernel_rfl) (fun K hK => ?_)
  obtain ⟨g0, g1, g2, g3, g4, g5⟩ := (HBX.out _ HV3.out.kept).2.c
  have y0 := (HBX.out _ HV3.out.kept).2.f 0
  have y1 := (HBX.out _ HV3.out.kept).2.f 1
  have y2 := (HBX.out _ HV3.out.kept).2.f 2
  have y3 := (HBX.out _ HV3.out.kept).2.f 3
  have y4 := (HBX.out _ HV3.out.kept).2.f 4
  have y5 := (HBX.out _ HV3.out.kept).2.f 5
  go_simp
  go_wp2
  refine hK.out _ _ ?_
  clear hK K
  try simp only [Act.put, List.getElem_toArray, List.getElem_cons_succ, List.getElem_cons_zero, List.setIfInBounds_toArray, List.set_cons_zero, List.set_cons_succ]
  go_wp2
  refine g6_end Tryd.results42 rfl rfl ((HBX.out _ HV3.out.kept).2.set L 1 (.slice av3 (m + 1) cv3) f s 0) ?_
  exact ⟨_, L, 1, f, s, rfl, fun _ => ⟨rfl, rfl, rfl, rfl, HV3.out.set6 HK0.out (q := w.heap.size + 1) (by omega) HQ.out _ _ _ _ _ _⟩, fun h => absurd rfl h, six_kept (HK0.out.trans HV3.out.kept) (by have := HQ.out; omega) _ _ _ _ _ _⟩
set_option maxHeartbeats 4000000 in
set_option maxRecDepth 100000 in
theorem rget_c3 (sv : Value) (l0 : List Nat) (f s : Nat) (lo : Option Addr) (lc : Nat) (l : List Bool) (w : World) (hs : SlAt w sv (xvals l0)) (hv : SlAt w (.slice lo l.length lc) (ints l)) (hcap : l.length ≤ lc) (hl0 : l0.length ≤ 1000000) (hl : l.length ≤ 100000000) (h0 : 1 ≤ l0.length) (hb : ∀ x ∈ l0, x < 18446744073709551616) (h : l.length = 1) (hb0 : l.getD 0 false = true) :
    Calls Tryd.prog 42 #[stV sv f s, .slice lo l.length lc] w (RGot w l0 0 0 2 f s) := by
  obtain ⟨ao, ca, rfl, hvr⟩ := hs.val
  clear hvr
  rw [xvals_length] at hs ⊢
  have k0 := ((Kept.refl (fun _ => False) w).alloc (.cells #[.slice ao l0.length ca, .int .i64 (f : Int), .int .i64 (s : Int)] 63)).alloc (.cells #[.int .u64 0, .int .i64 0, .slice none 0 0, .int .i64 0, .int .i64 0, .int .i64 0] 69)
  obtain ⟨wb, hwb⟩ : ∃ w', w' = (w.alloc (.cells #[.slice ao l0.length ca, .int .i64 (f : Int), .int .i64 (s : Int)] 63)).alloc (.cells #[.int .u64 0, .int .i64 0, .slice none 0 0, .int .i64 0, .int .i64 0, .int .i64 0] 69) := ⟨_, rfl⟩
  have kk := fun (w : World) o => (Kept.refl (fun _ => False) w).alloc o
  have b1 : StBox wb w.heap.size (.slice ao l0.length ca) f s := by
    rw [hwb]
    exact (show StBox (w.alloc (.cells #[.slice ao l0.length ca, .int .i64 (f : Int), .int .i64 (s : Int)] 63)) w.heap.size (.slice ao l0.length ca) f s from heap_alloc_new w _).same (kk _ _) (fun x => x)
  have b3 : GBox wb (w.heap.size + 1) 0 0 (.slice none 0 0) 0 0 0 := by
    rw [hwb]
    have := heap_alloc_new (w.alloc (.cells #[.slice ao l0.length ca, .int .i64 (f : Int), .int .i64 (s : Int)] 63)) (.cells #[.int .u64 0, .int .i64 0, .slice none 0 0, .int .i64 0, .int .i64 0, .int .i64 0] 69)
    rw [show (w.alloc (.cells #[.slice ao l0.length ca, .int .i64 (f : Int), .int .i64 (s : Int)] 63)).heap.size = w.heap.size + 1 by simp] at this
    exact this
  rw [← hwb] at k0
  obtain ⟨m, hm⟩ : ∃ m, m = l0.length := ⟨_, rfl⟩
  rw [← hm] at b1 hwb ⊢
  have HBX := Lib.hid fun w' (k : Kept (fun _ => False) wb w') => And.intro (b1.same k (fun x => x)) (b3.same k (fun x => x))
  have HQ := Lib.hid (show w.heap.size + 1 < wb.heap.size from (Array.getElem?_eq_some_iff.1 b3).1)
  have HK0 := Lib.hid k0
  have hsb := hs.kept k0 (fun _ _ x => x)
  have hvb := hv.kept k0 (fun _ _ x => x)
  have HW := Lib.hid hwb
  obtain ⟨d0, d1, d2⟩ := b1.c
  have HLX : Hid (∀ x, (xvals (l0 ++ [x])).length = m + 1) := Lib.hid fun x => by rw [hm]; simp
  have hrefl := Kept.refl (fun _ => False) wb
  have HRF := Lib.hid hrefl
  clear hwb kk b1 b3 hrefl
  have n0 : ((m : Int) == 0) = false := by rw [hm]; exact beq_eq_false_iff_ne.2 (by omega)
  have hlw : ∀ w' (_ : Kept (fun _ => False) wb w'), _ := fun w' k => rlast_any _ l0 f s w' (hsb.kept k (fun _ _ x => x)) hl0
  obtain ⟨L, hL⟩ : ∃ L, L = lastN l0 l0.length := ⟨_, rfl⟩
  have HLAST := Lib.hid hlw
  rw [← hm] at hL HLAST
  rw [← hL] at HLAST
  have huse := And.intro h0 (And.intro hcap (And.intro hl hb))
  clear huse
  unfold stV at HLAST
  obtain ⟨n, hn⟩ : ∃ n, n = l.length := ⟨_, rfl⟩
  have HNN := Lib.hid hn
  clear hlw
  have q1 : ¬ (n : Int) < 1 := by omega
  have q1b : decide (n < 1) = false := decide_eq_false (by omega)
  have q2 : (n : Int) < 2 := by omega
  have q2b : decide (n < 2) = true := decide_eq_true (by omega)
  obtain ⟨g, off, rfl, _⟩ := hvb.elem (ints_get (l := l) (j := 0) (by omega))
  have HCELL := Lib.hid fun w' (k : Kept (fun _ => False) wb w') i (hi : i < l.length) => show w'.cell? ⟨g, off + i, none⟩ = some (.int .i64 (((l.getD i false).toNat : Nat) : Int)) from by
    obtain ⟨g', off', e, c⟩ := (hvb.kept k (fun _ _ x => x)).elem (ints_get hi)
    cases e; exact c
  have cb0 := HCELL.out wb HRF.out 0 (by omega)
  rw [hb0, Nat.add_zero] at cb0
  have z0 : (0 : Int) < (n : Int) := by omega
  rw [← hn]
  obtain ⟨g0, g1, g2, g3, g4, g5⟩ := (HBX.out _ HRF.out).2.c
  have y0 := (HBX.out _ HRF.out).2.f 0
  have y1 := (HBX.out _ HRF.out).2.f 1
  have y2 := (HBX.out _ HRF.out).2.f 2
  have y3 := (HBX.out _ HRF.out).2.f 3
  have y4 := (HBX.out _ HRF.out).2.f 4
  have y5 := (HBX.out _ HRF.out).2.f 5
  unfold stV
  clear hs hv hcap hl0 hl hb h0 k0 hm hsb hvb hL hn h hb0
  go_enter Tryd.func42, Tryd.ntmps42
  go_upto_region 1 with fail
  rw [← HW.out]
  go_wp2
  refine g6_end Tryd.results42 rfl rfl ((HBX.out _ HRF.out).2.set 0 0 (.slice none 0 0) 0 0 2) ?_
  exact ⟨_, 0, 0, 0, 0, rfl, fun h => absurd h (by decide), fun _ => ⟨rfl, rfl, rfl⟩, six_kept (HK0.out.trans HRF.out) (by have := HQ.out; omega) _ _ _ _ _ _⟩
set_option maxHeartbeats 4000000 in
set_option maxRecDepth 100000 in
theorem rget_c4 (sv : Value) (l0 : List Nat) (f s : Nat) (lo : Option Addr) (lc : Nat) (l : List Bool) (w : World) (hs : SlAt w sv (xvals l0)) (hv : SlAt w (.slice lo l.length lc) (ints l)) (hcap : l.length ≤ lc) (hl0 : l0.length ≤ 1000000) (hl : l.length ≤ 100000000) (h0 : 1 ≤ l0.length) (hb : ∀ x ∈ l0, x < 18446744073709551616) (h : 2 ≤ l.length) (h13 : l.length < 13) (hb0 : l.getD 0 false = true) (hb1 : l.getD 1 false = true) :
    Calls Tryd.prog 42 #[stV sv f s, .slice lo l.length lc] w (RGot w l0 0 0 2 f s) := by
  obtain ⟨ao, ca, rfl, hvr⟩ := hs.val
  clear hvr
  rw [xvals_length] at hs ⊢
  have k0 := ((Kept.refl (fun _ => False) w).alloc (.cells #[.slice ao l0.length ca, .int .i64 (f : Int), .int .i64 (s : Int)] 63)).alloc (.cells #[.int .u64 0, .int .i64 0, .slice none 0 0, .int .i64 0, .int .i64 0, .int .i64 0] 69)
  obtain ⟨wb, hwb⟩ : ∃ w', w' = (w.alloc (.cells #[.slice ao l0.length ca, .int .i64 (f : Int), .int .i64 (s : Int)] 63)).alloc (.cells #[.int .u64 0, .int .i64 0, .slice none 0 0, .int .i64 0, .int .i64 0, .int .i64 0] 69) := ⟨_, rfl⟩
  have kk := fun (w : World) o => (Kept.refl (fun _ => False) w).alloc o
  have b1 : StBox wb w.heap.size (.slice ao l0.length ca) f s := by
    rw [hwb]
    exact (show StBox (w.alloc (.cells #[.slice ao l0.length ca, .int .i64 (f : Int), .int .i64 (s : Int)] 63)) w.heap.size (.slice ao l0.length ca) f s from heap_alloc_new w _).same (kk _ _) (fun x => x)
  have b3 : GBox wb (w.heap.size + 1) 0 0 (.slice none 0 0) 0 0 0 := by
    rw [hwb]
    have := heap_alloc_new (w.alloc (.cells #[.slice ao l0.length ca, .int .i64 (f : Int), .int .i64 (s : Int)] 63)) (.cells #[.int .u64 0, .int .i64 0, .slice none 0 0, .int .i64 0, .int .i64 0, .int .i64 0] 69)
    rw [show (w.alloc (.cells #[.slice ao l0.length ca, .int .i64 (f : Int), .int .i64 (s : Int)] 63)).heap.size = w.heap.size + 1 by simp] at this
    exact this
  rw [← hwb] at k0
  obtain ⟨m, hm⟩ : ∃ m, m = l0.length := ⟨_, rfl⟩
  rw [← hm] at b1 hwb ⊢
  have HBX := Lib.hid fun w' (k : Kept (fun _ => False) wb w') => And.intro (b1.same k (fun x => x)) (b3.same k (fun x => x))
  have HQ := Lib.hid (show w.heap.size + 1 < wb.heap.size from (Array.getElem?_eq_some_iff.1 b3).1)
  have HK0 := Lib.hid k0
  have hsb := hs.kept k0 (fun _ _ x => x)
  have hvb := hv.kept k0 (fun _ _ x => x)
  have HW := Lib.hid hwb
  obtain ⟨d0, d1, d2⟩ := b1.c
  have HLX : Hid (∀ x, (xvals (l0 ++ [x])).length = m + 1) := Lib.hid fun x => by rw [hm]; simp
  have hrefl := Kept.refl (fun _ => False) wb
  have HRF := Lib.hid hrefl
  clear hwb kk b1 b3 hrefl
  have n0 : ((m : Int) == 0) = false := by rw [hm]; exact beq_eq_false_iff_ne.2 (by omega)
  have hlw : ∀ w' (_ : Kept (fun _ => False) wb w'), _ := fun w' k => rlast_any _ l0 f s w' (hsb.kept k (fun _ _ x => x)) hl0
  obtain ⟨L, hL⟩ : ∃ L, L = lastN l0 l0.length := ⟨_, rfl⟩
  have HLAST := Lib.hid hlw
  rw [← hm] at hL HLAST
  rw [← hL] at HLAST
  have huse := And.intro h0 (And.intro hcap (And.intro hl hb))
  clear huse
  unfold stV at HLAST
  obtain ⟨n, hn⟩ : ∃ n, n = l.length := ⟨_, rfl⟩
  have HNN := Lib.hid hn
  clear hlw
  have q1 : ¬ (n : Int) < 1 := by omega
  have q1b : decide (n < 1) = false := decide_eq_false (by omega)
  have q2 : ¬ (n : Int) < 2 := by omega
  have q2b : decide (n < 2) = false := decide_eq_false (by omega)
  have q13 : (n : Int) < 13 := by omega
  have q13b : decide (n < 13) = true := decide_eq_true (by omega)
  obtain ⟨g, off, rfl, _⟩ := hvb.elem (ints_get (l := l) (j := 0) (by omega))
  have HCELL := Lib.hid fun w' (k : Kept (fun _ => False) wb w') i (hi : i < l.length) => show w'.cell? ⟨g, off + i, none⟩ = some (.int .i64 (((l.getD i false).toNat : Nat) : Int)) from by
    obtain ⟨g', off', e, c⟩ := (hvb.kept k (fun _ _ x => x)).elem (ints_get hi)
    cases e; exact c
  have cb0 := HCELL.out wb HRF.out 0 (by omega)
  rw [hb0, Nat.add_zero] at cb0
  have HB1 := Lib.hid fun w' (k : Kept (fun _ => False) wb w') => HCELL.out w' k 1 (by omega)
  rw [hb1] at HB1
  have z0 : (0 : Int) < (n : Int) := by omega
  have z1 : (1 : Int) < (n : Int) := by omega
  rw [← hn]
  unfold stV
  clear hs hv hcap hl0 hl hb h0 k0 hm hsb hvb hL hn h hb0 hb1 h13
  go_enter Tryd.func42, Tryd.ntmps42
  go_upto_region 1 with fail
  rw [← HW.out]
  go_upto_region 13 with fail
  obtain ⟨wk, hwk⟩ : ∃ w', w' = wb.alloc (.cells #[.int .i64 (f : Int), .int .i64 (s : Int)] 61) := ⟨_, rfl⟩
  have kk : Kept (fun _ => False) wb wk := by rw [hwk]; exact (Kept.refl _ _).alloc _
  have HKK := Lib.hid kk
  have HWK := Lib.hid (show WinR wk wb.heap.size f s from by rw [hwk]; exact WinR.new wb _ _)
  rw [← hwk]
  clear hwk kk cb0 d0 d1 d2
  have cb1 := HB1.out _ HKK.out
  obtain ⟨g0, g1, g2, g3, g4, g5⟩ := (HBX.out _ HKK.out).2.c
  have y0 := (HBX.out _ HKK.out).2.f 0
  have y1 := (HBX.out _ HKK.out).2.f 1
  have y2 := (HBX.out _ HKK.out).2.f 2
  have y3 := (HBX.out _ HKK.out).2.f 3
  have y4 := (HBX.out _ HKK.out).2.f 4
  have y5 := (HBX.out _ HKK.out).2.f 5
  go_wp2
  refine g6_end Tryd.results42 rfl rfl ((HBX.out _ HKK.out).2.set 0 0 (.slice none 0 0) 0 0 2) ?_
  exact ⟨_, 0, 0, 0, 0, rfl, fun h => absurd h (by decide), fun _ => ⟨rfl, rfl, rfl⟩, six_kept (HK0.out.trans HKK.out) (by have := HQ.out; omega) _ _ _ _ _ _⟩
end Go.Proofs.YtaagjedkojlbpaaDoor
