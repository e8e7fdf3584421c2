/- package limnographref07: Get, in the window that is. -/
import Derived.Test.YtaagjedkojlbpaaDoorW22
namespace Go.Proofs.YtaagjedkojlbpaaDoor
open Go.RowKit
attribute [local go_sem ↓] Go.wp_at_zero Go.wp_at_succ

set_option maxHeartbeats 4000000 in
set_option maxRecDepth 100000 in
theorem rget_w1_1 (sv : Value) (l0 : List Nat) (f s : Nat) (lo : Option Addr) (lc : Nat) (l : List Bool) (w : World) (hs : SlAt w sv (xvals l0)) (hv : SlAt w (.slice lo l.length lc) (ints l)) (hcap : l.length ≤ lc) (hl0 : l0.length ≤ 1000000) (hl : l.length ≤ 100000000) (h0 : 1 ≤ l0.length) (hb : ∀ x ∈ l0, x < 18446744073709551616) (h : 2 ≤ l.length) (hb0 : l.getD 0 false = true) (hb1 : l.getD 1 false = false) (hok : okW f s) (hc : s = 0) :
    Calls Tryd.prog 42 #[stV sv f s, .slice lo l.length lc] w (RGot w l0 0 0 3 f s) := by
  obtain ⟨ao, ca, rfl, hvr⟩ := hs.val
  clear hvr
  rw [xvals_length] at hs ⊢
  have k0 := ((Kept.refl (fun _ => False) w).alloc (.cells #[.slice ao l0.length ca, .int .i64 (f : Int), .int .i64 (s : Int)] 63)).alloc (.cells #[.int .u64 0, .int .i64 0, .slice none 0 0, .int .i64 0, .int .i64 0, .int .i64 0] 69)
  obtain ⟨wb, hwb⟩ : ∃ w', w' = (w.alloc (.cells #[.slice ao l0.length ca, .int .i64 (f : Int), .int .i64 (s : Int)] 63)).alloc (.cells #[.int .u64 0, .int .i64 0, .slice none 0 0, .int .i64 0, .int .i64 0, .int .i64 0] 69) := ⟨_, rfl⟩
  have kk := fun (w : World) o => (Kept.refl (fun _ => False) w).alloc o
  have b1 : StBox wb w.heap.size (.slice ao l0.length ca) f s := by
    rw [hwb]
    exact (show StBox (w.alloc (.cells #[.slice ao l0.length ca, .int .i64 (f : Int), .int .i64 (s : Int)] 63)) w.heap.size (.slice ao l0.length ca) f s from heap_alloc_new w _).same (kk _ _) (fun x => x)
  have b3 : GBox wb (w.heap.size + 1) 0 0 (.slice none 0 0) 0 0 0 := by
    rw [hwb]
    have := heap_alloc_new (w.alloc (.cells #[.slice ao l0.length ca, .int .i64 (f : Int), .int .i64 (s : Int)] 63)) (.cells #[.int .u64 0, .int .i64 0, .slice none 0 0, .int .i64 0, .int .i64 0, .int .i64 0] 69)
    rw [show (w.alloc (.cells #[.slice ao l0.length ca, .int .i64 (f : Int), .int .i64 (s : Int)] 63)).heap.size = w.heap.size + 1 by simp] at this
    exact this
  rw [← hwb] at k0
  obtain ⟨m, hm⟩ : ∃ m, m = l0.length := ⟨_, rfl⟩
  rw [← hm] at b1 hwb ⊢
  have HBX := Lib.hid fun w' (k : Kept (fun _ => False) wb w') => And.intro (b1.same k (fun x => x)) (b3.same k (fun x => x))
  have HQ := Lib.hid (show w.heap.size + 1 < wb.heap.size from (Array.getElem?_eq_some_iff.1 b3).1)
  have HK0 := Lib.hid k0
  have hsb := hs.kept k0 (fun _ _ x => x)
  have hvb := hv.kept k0 (fun _ _ x => x)
  have HW := Lib.hid hwb
  obtain ⟨d0, d1, d2⟩ := b1.c
  have HLX : Hid (∀ x, (xvals (l0 ++ [x])).length = m + 1) := Lib.hid fun x => by rw [hm]; simp
  have hrefl := Kept.refl (fun _ => False) wb
  have HRF := Lib.hid hrefl
  clear hwb kk b1 b3 hrefl
  have n0 : ((m : Int) == 0) = false := by rw [hm]; exact beq_eq_false_iff_ne.2 (by omega)
  have hlw : ∀ w' (_ : Kept (fun _ => False) wb w'), _ := fun w' k => rlast_any _ l0 f s w' (hsb.kept k (fun _ _ x => x)) hl0
  obtain ⟨L, hL⟩ : ∃ L, L = lastN l0 l0.length := ⟨_, rfl⟩
  have HLAST := Lib.hid hlw
  rw [← hm] at hL HLAST
  rw [← hL] at HLAST
  have huse := And.intro h0 (And.intro hcap (And.intro hl hb))
  clear huse
  unfold stV at HLAST
  obtain ⟨n, hn⟩ : ∃ n, n = l.length := ⟨_, rfl⟩
  have HNN := Lib.hid hn
  clear hlw
  have q1 : ¬ (n : Int) < 1 := by omega
  have q1b : decide (n < 1) = false := decide_eq_false (by omega)
  have q2 : ¬ (n : Int) < 2 := by omega
  have q2b : decide (n < 2) = false := decide_eq_false (by omega)
  obtain ⟨g, off, rfl, _⟩ := hvb.elem (ints_get (l := l) (j := 0) (by omega))
  have HCELL := Lib.hid fun w' (k : Kept (fun _ => False) wb w') i (hi : i < l.length) => show w'.cell? ⟨g, off + i, none⟩ = some (.int .i64 (((l.getD i false).toNat : Nat) : Int)) from by
    obtain ⟨g', off', e, c⟩ := (hvb.kept k (fun _ _ x => x)).elem (ints_get hi)
    cases e; exact c
  have cb0 := HCELL.out wb HRF.out 0 (by omega)
  rw [hb0, Nat.add_zero] at cb0
  have HB1 := Lib.hid fun w' (k : Kept (fun _ => False) wb w') => HCELL.out w' k 1 (by omega)
  rw [hb1] at HB1
  have z0' : (0 : Int) < (n : Int) := by omega
  have z1' : (1 : Int) < (n : Int) := by omega
  have hle := hok.le
  have huse3 := h
  clear huse3
  have HC := Lib.hid (show ((s : Nat) : Int) = 0 by omega)
  rw [← hn]
  unfold stV
  clear hs hv hcap hl0 hl hb h0 k0 hm hsb hvb hL hn h hb0 hb1 hok hle hc
  go_enter Tryd.func42, Tryd.ntmps42
  go_upto_region 1 with fail
  rw [← HW.out]
  go_upto_region 13 with fail
  obtain ⟨wk, hwk⟩ : ∃ w', w' = wb.alloc (.cells #[.int .i64 (f : Int), .int .i64 (s : Int)] 61) := ⟨_, rfl⟩
  have kk : Kept (fun _ => False) wb wk := by rw [hwk]; exact (Kept.refl _ _).alloc _
  have HKK := Lib.hid kk
  have HWK := Lib.hid (show WinR wk wb.heap.size f s from by rw [hwk]; exact WinR.new wb _ _)
  rw [← hwk]
  clear hwk kk cb0 d0 d1 d2
  have cb1 := HB1.out _ HKK.out
  have HKT := HKK
  have HWT := HWK
  obtain ⟨z0, z1⟩ := HWT.out.c
  rw [HC.out] at z1
  obtain ⟨g0, g1, g2, g3, g4, g5⟩ := (HBX.out _ HKT.out).2.c
  have y0 := (HBX.out _ HKT.out).2.f 0
  have y1 := (HBX.out _ HKT.out).2.f 1
  have y2 := (HBX.out _ HKT.out).2.f 2
  have y3 := (HBX.out _ HKT.out).2.f 3
  have y4 := (HBX.out _ HKT.out).2.f 4
  have y5 := (HBX.out _ HKT.out).2.f 5
  go_wp2
  refine g6_end Tryd.results42 rfl rfl ((HBX.out _ HKT.out).2.set 0 0 (.slice none 0 0) 0 0 3) ?_
  exact ⟨_, 0, 0, 0, 0, rfl, fun h => absurd h (by decide), fun _ => ⟨rfl, rfl, rfl⟩, six_kept (HK0.out.trans HKT.out) (by have := HQ.out; omega) _ _ _ _ _ _⟩
set_option maxHeartbeats 4000000 in
set_option maxRecDepth 100000 in
theorem rget_w1_2 (sv : Value) (l0 : List Nat) (f s : Nat) (lo : Option Addr) (lc : Nat) (l : List Bool) (w : World) (hs : SlAt w sv (xvals l0)) (hv : SlAt w (.slice lo l.length lc) (ints l)) (hcap : l.length ≤ lc) (hl0 : l0.length ≤ 1000000) (hl : l.length ≤ 100000000) (h0 : 1 ≤ l0.length) (hb : ∀ x ∈ l0, x < 18446744073709551616) (h : 2 ≤ l.length) (hb0 : l.getD 0 false = true) (hb1 : l.getD 1 false = false) (hok : okW f s) (hS1 : 1 ≤ s) (hc : 64 < f + s) :
    Calls Tryd.prog 42 #[stV sv f s, .slice lo l.length lc] w (RGot w l0 0 0 3 f s) := by
  obtain ⟨ao, ca, rfl, hvr⟩ := hs.val
  clear hvr
  rw [xvals_length] at hs ⊢
  have k0 := ((Kept.refl (fun _ => False) w).alloc (.cells #[.slice ao l0.length ca, .int .i64 (f : Int), .int .i64 (s : Int)] 63)).alloc (.cells #[.int .u64 0, .int .i64 0, .slice none 0 0, .int .i64 0, .int .i64 0, .int .i64 0] 69)
  obtain ⟨wb, hwb⟩ : ∃ w', w' = (w.alloc (.cells #[.slice ao l0.length ca, .int .i64 (f : Int), .int .i64 (s : Int)] 63)).alloc (.cells #[.int .u64 0, .int .i64 0, .slice none 0 0, .int .i64 0, .int .i64 0, .int .i64 0] 69) := ⟨_, rfl⟩
  have kk := fun (w : World) o => (Kept.refl (fun _ => False) w).alloc o
  have b1 : StBox wb w.heap.size (.slice ao l0.length ca) f s := by
    rw [hwb]
    exact (show StBox (w.alloc (.cells #[.slice ao l0.length ca, .int .i64 (f : Int), .int .i64 (s : Int)] 63)) w.heap.size (.slice ao l0.length ca) f s from heap_alloc_new w _).same (kk _ _) (fun x => x)
  have b3 : GBox wb (w.heap.size + 1) 0 0 (.slice none 0 0) 0 0 0 := by
    rw [hwb]
    have := heap_alloc_new (w.alloc (.cells #[.slice ao l0.length ca, .int .i64 (f : Int), .int .i64 (s : Int)] 63)) (.cells #[.int .u64 0, .int .i64 0, .slice none 0 0, .int .i64 0, .int .i64 0, .int .i64 0] 69)
    rw [show (w.alloc (.cells #[.slice ao l0.length ca, .int .i64 (f : Int), .int .i64 (s : Int)] 63)).heap.size = w.heap.size + 1 by simp] at this
    exact this
  rw [← hwb] at k0
  obtain ⟨m, hm⟩ : ∃ m, m = l0.length := ⟨_, rfl⟩
  rw [← hm] at b1 hwb ⊢
  have HBX := Lib.hid fun w' (k : Kept (fun _ => False) wb w') => And.intro (b1.same k (fun x => x)) (b3.same k (fun x => x))
  have HQ := Lib.hid (show w.heap.size + 1 < wb.heap.size from (Array.getElem?_eq_some_iff.1 b3).1)
  have HK0 := Lib.hid k0
  have hsb := hs.kept k0 (fun _ _ x => x)
  have hvb := hv.kept k0 (fun _ _ x => x)
  have HW := Lib.hid hwb
  obtain ⟨d0, d1, d2⟩ := b1.c
  have HLX : Hid (∀ x, (xvals (l0 ++ [x])).length = m + 1) := Lib.hid fun x => by rw [hm]; simp
  have hrefl := Kept.refl (fun _ => False) wb
  have HRF := Lib.hid hrefl
  clear hwb kk b1 b3 hrefl
  have n0 : ((m : Int) == 0) = false := by rw [hm]; exact beq_eq_false_iff_ne.2 (by omega)
  have hlw : ∀ w' (_ : Kept (fun _ => False) wb w'), _ := fun w' k => rlast_any _ l0 f s w' (hsb.kept k (fun _ _ x => x)) hl0
  obtain ⟨L, hL⟩ : ∃ L, L = lastN l0 l0.length := ⟨_, rfl⟩
  have HLAST := Lib.hid hlw
  rw [← hm] at hL HLAST
  rw [← hL] at HLAST
  have huse := And.intro h0 (And.intro hcap (And.intro hl hb))
  clear huse
  unfold stV at HLAST
  obtain ⟨n, hn⟩ : ∃ n, n = l.length := ⟨_, rfl⟩
  have HNN := Lib.hid hn
  clear hlw
  have q1 : ¬ (n : Int) < 1 := by omega
  have q1b : decide (n < 1) = false := decide_eq_false (by omega)
  have q2 : ¬ (n : Int) < 2 := by omega
  have q2b : decide (n < 2) = false := decide_eq_false (by omega)
  obtain ⟨g, off, rfl, _⟩ := hvb.elem (ints_get (l := l) (j := 0) (by omega))
  have HCELL := Lib.hid fun w' (k : Kept (fun _ => False) wb w') i (hi : i < l.length) => show w'.cell? ⟨g, off + i, none⟩ = some (.int .i64 (((l.getD i false).toNat : Nat) : Int)) from by
    obtain ⟨g', off', e, c⟩ := (hvb.kept k (fun _ _ x => x)).elem (ints_get hi)
    cases e; exact c
  have cb0 := HCELL.out wb HRF.out 0 (by omega)
  rw [hb0, Nat.add_zero] at cb0
  have HB1 := Lib.hid fun w' (k : Kept (fun _ => False) wb w') => HCELL.out w' k 1 (by omega)
  rw [hb1] at HB1
  have z0' : (0 : Int) < (n : Int) := by omega
  have z1' : (1 : Int) < (n : Int) := by omega
  have hle := hok.le
  have huse3 := h
  clear huse3
  have zs : ((s : Int) == 0) = false := beq_eq_false_iff_ne.2 (by omega)
  have afs : IntKind.i64.wrap ((f : Int) + (s : Int)) = (f : Int) + (s : Int) := IntWalk.i64_in _ ⟨by omega, by omega⟩
  have zs2 : (64 : Int) < (f : Int) + (s : Int) := by omega
  have zs3 : decide ((64 : Int) < (f : Int) + (s : Int)) = true := decide_eq_true zs2
  have huse2 := hS1
  clear huse2
  rw [← hn]
  unfold stV
  clear hs hv hcap hl0 hl hb h0 k0 hm hsb hvb hL hn h hb0 hb1 hok hle hc hS1
  go_enter Tryd.func42, Tryd.ntmps42
  go_upto_region 1 with fail
  rw [← HW.out]
  go_upto_region 13 with fail
  obtain ⟨wk, hwk⟩ : ∃ w', w' = wb.alloc (.cells #[.int .i64 (f : Int), .int .i64 (s : Int)] 61) := ⟨_, rfl⟩
  have kk : Kept (fun _ => False) wb wk := by rw [hwk]; exact (Kept.refl _ _).alloc _
  have HKK := Lib.hid kk
  have HWK := Lib.hid (show WinR wk wb.heap.size f s from by rw [hwk]; exact WinR.new wb _ _)
  rw [← hwk]
  clear hwk kk cb0 d0 d1 d2
  have cb1 := HB1.out _ HKK.out
  have HKT := HKK
  have HWT := HWK
  obtain ⟨z0, z1⟩ := HWT.out.c
  obtain ⟨g0, g1, g2, g3, g4, g5⟩ := (HBX.out _ HKT.out).2.c
  have y0 := (HBX.out _ HKT.out).2.f 0
  have y1 := (HBX.out _ HKT.out).2.f 1
  have y2 := (HBX.out _ HKT.out).2.f 2
  have y3 := (HBX.out _ HKT.out).2.f 3
  have y4 := (HBX.out _ HKT.out).2.f 4
  have y5 := (HBX.out _ HKT.out).2.f 5
  go_wp2
  refine g6_end Tryd.results42 rfl rfl ((HBX.out _ HKT.out).2.set 0 0 (.slice none 0 0) 0 0 3) ?_
  exact ⟨_, 0, 0, 0, 0, rfl, fun h => absurd h (by decide), fun _ => ⟨rfl, rfl, rfl⟩, six_kept (HK0.out.trans HKT.out) (by have := HQ.out; omega) _ _ _ _ _ _⟩
set_option maxHeartbeats 4000000 in
set_option maxRecDepth 100000 in
theorem rget_w1_3 (sv : Value) (l0 : List Nat) (f s : Nat) (lo : Option Addr) (lc : Nat) (l : List Bool) (w : World) (hs : SlAt w sv (xvals l0)) (hv : SlAt w (.slice lo l.length lc) (ints l)) (hcap : l.length ≤ lc) (hl0 : l0.length ≤ 1000000) (hl : l.length ≤ 100000000) (h0 : 1 ≤ l0.length) (hb : ∀ x ∈ l0, x < 18446744073709551616) (h : 2 ≤ l.length) (hb0 : l.getD 0 false = true) (hb1 : l.getD 1 false = false) (hok : okW f s) (hS1 : 1 ≤ s) (hFS : f + s ≤ 64) (hsh : l.length - 2 < s) :
    Calls Tryd.prog 42 #[stV sv f s, .slice lo l.length lc] w (RGot w l0 0 0 2 f s) := by
  obtain ⟨ao, ca, rfl, hvr⟩ := hs.val
  clear hvr
  rw [xvals_length] at hs ⊢
  have k0 := ((Kept.refl (fun _ => False) w).alloc (.cells #[.slice ao l0.length ca, .int .i64 (f : Int), .int .i64 (s : Int)] 63)).alloc (.cells #[.int .u64 0, .int .i64 0, .slice none 0 0, .int .i64 0, .int .i64 0, .int .i64 0] 69)
  obtain ⟨wb, hwb⟩ : ∃ w', w' = (w.alloc (.cells #[.slice ao l0.length ca, .int .i64 (f : Int), .int .i64 (s : Int)] 63)).alloc (.cells #[.int .u64 0, .int .i64 0, .slice none 0 0, .int .i64 0, .int .i64 0, .int .i64 0] 69) := ⟨_, rfl⟩
  have kk := fun (w : World) o => (Kept.refl (fun _ => False) w).alloc o
  have b1 : StBox wb w.heap.size (.slice ao l0.length ca) f s := by
    rw [hwb]
    exact (show StBox (w.alloc (.cells #[.slice ao l0.length ca, .int .i64 (f : Int), .int .i64 (s : Int)] 63)) w.heap.size (.slice ao l0.length ca) f s from heap_alloc_new w _).same (kk _ _) (fun x => x)
  have b3 : GBox wb (w.heap.size + 1) 0 0 (.slice none 0 0) 0 0 0 := by
    rw [hwb]
    have := heap_alloc_new (w.alloc (.cells #[.slice ao l0.length ca, .int .i64 (f : Int), .int .i64 (s : Int)] 63)) (.cells #[.int .u64 0, .int .i64 0, .slice none 0 0, .int .i64 0, .int .i64 0, .int .i64 0] 69)
    rw [show (w.alloc (.cells #[.slice ao l0.length ca, .int .i64 (f : Int), .int .i64 (s : Int)] 63)).heap.size = w.heap.size + 1 by simp] at this
    exact this
  rw [← hwb] at k0
  obtain ⟨m, hm⟩ : ∃ m, m = l0.length := ⟨_, rfl⟩
  rw [← hm] at b1 hwb ⊢
  have HBX := Lib.hid fun w' (k : Kept (fun _ => False) wb w') => And.intro (b1.same k (fun x => x)) (b3.same k (fun x => x))
  have HQ := Lib.hid (show w.heap.size + 1 < wb.heap.size from (Array.getElem?_eq_some_iff.1 b3).1)
  have HK0 := Lib.hid k0
  have hsb := hs.kept k0 (fun _ _ x => x)
  have hvb := hv.kept k0 (fun _ _ x => x)
  have HW := Lib.hid hwb
  obtain ⟨d0, d1, d2⟩ := b1.c
  have HLX : Hid (∀ x, (xvals (l0 ++ [x])).length = m + 1) := Lib.hid fun x => by rw [hm]; simp
  have hrefl := Kept.refl (fun _ => False) wb
  have HRF := Lib.hid hrefl
  clear hwb kk b1 b3 hrefl
  have n0 : ((m : Int) == 0) = false := by rw [hm]; exact beq_eq_false_iff_ne.2 (by omega)
  have hlw : ∀ w' (_ : Kept (fun _ => False) wb w'), _ := fun w' k => rlast_any _ l0 f s w' (hsb.kept k (fun _ _ x => x)) hl0
  obtain ⟨L, hL⟩ : ∃ L, L = lastN l0 l0.length := ⟨_, rfl⟩
  have HLAST := Lib.hid hlw
  rw [← hm] at hL HLAST
  rw [← hL] at HLAST
  have huse := And.intro h0 (And.intro hcap (And.intro hl hb))
  clear huse
  unfold stV at HLAST
  obtain ⟨n, hn⟩ : ∃ n, n = l.length := ⟨_, rfl⟩
  have HNN := Lib.hid hn
  clear hlw
  have q1 : ¬ (n : Int) < 1 := by omega
  have q1b : decide (n < 1) = false := decide_eq_false (by omega)
  have q2 : ¬ (n : Int) < 2 := by omega
  have q2b : decide (n < 2) = false := decide_eq_false (by omega)
  obtain ⟨g, off, rfl, _⟩ := hvb.elem (ints_get (l := l) (j := 0) (by omega))
  have HCELL := Lib.hid fun w' (k : Kept (fun _ => False) wb w') i (hi : i < l.length) => show w'.cell? ⟨g, off + i, none⟩ = some (.int .i64 (((l.getD i false).toNat : Nat) : Int)) from by
    obtain ⟨g', off', e, c⟩ := (hvb.kept k (fun _ _ x => x)).elem (ints_get hi)
    cases e; exact c
  have cb0 := HCELL.out wb HRF.out 0 (by omega)
  rw [hb0, Nat.add_zero] at cb0
  have HB1 := Lib.hid fun w' (k : Kept (fun _ => False) wb w') => HCELL.out w' k 1 (by omega)
  rw [hb1] at HB1
  have z0' : (0 : Int) < (n : Int) := by omega
  have z1' : (1 : Int) < (n : Int) := by omega
  have hle := hok.le
  have huse3 := h
  clear huse3
  have zs : ((s : Int) == 0) = false := beq_eq_false_iff_ne.2 (by omega)
  have afs : IntKind.i64.wrap ((f : Int) + (s : Int)) = (f : Int) + (s : Int) := IntWalk.i64_in _ ⟨by omega, by omega⟩
  have zs2 : ¬ (64 : Int) < (f : Int) + (s : Int) := by omega
  have zs3 : decide ((64 : Int) < (f : Int) + (s : Int)) = false := decide_eq_false zs2
  obtain ⟨D, hD⟩ : ∃ D, D = n - 2 := ⟨_, rfl⟩
  have t1 : IntKind.i64.wrap ((n : Int) - 2) = (D : Int) := by rw [IntWalk.i64_in _ ⟨by omega, by omega⟩]; omega
  have t2 : (D : Int) < (s : Int) := by omega
  have t2b : decide (D < s) = true := decide_eq_true (by omega)
  rw [← hn]
  unfold stV
  clear hs hv hcap hl0 hl hb h0 k0 hm hsb hvb hL hn h hb0 hb1 hok hle hsh hS1 hFS hD
  go_enter Tryd.func42, Tryd.ntmps42
  go_upto_region 1 with fail
  rw [← HW.out]
  go_upto_region 13 with fail
  obtain ⟨wk, hwk⟩ : ∃ w', w' = wb.alloc (.cells #[.int .i64 (f : Int), .int .i64 (s : Int)] 61) := ⟨_, rfl⟩
  have kk : Kept (fun _ => False) wb wk := by rw [hwk]; exact (Kept.refl _ _).alloc _
  have HKK := Lib.hid kk
  have HWK := Lib.hid (show WinR wk wb.heap.size f s from by rw [hwk]; exact WinR.new wb _ _)
  rw [← hwk]
  clear hwk kk cb0 d0 d1 d2
  have cb1 := HB1.out _ HKK.out
  have HKT := HKK
  have HWT := HWK
  obtain ⟨z0, z1⟩ := HWT.out.c
  obtain ⟨g0, g1, g2, g3, g4, g5⟩ := (HBX.out _ HKT.out).2.c
  have y0 := (HBX.out _ HKT.out).2.f 0
  have y1 := (HBX.out _ HKT.out).2.f 1
  have y2 := (HBX.out _ HKT.out).2.f 2
  have y3 := (HBX.out _ HKT.out).2.f 3
  have y4 := (HBX.out _ HKT.out).2.f 4
  have y5 := (HBX.out _ HKT.out).2.f 5
  go_wp2
  refine g6_end Tryd.results42 rfl rfl ((HBX.out _ HKT.out).2.set 0 0 (.slice none 0 0) 0 0 2) ?_
  exact ⟨_, 0, 0, 0, 0, rfl, fun h => absurd h (by decide), fun _ => ⟨rfl, rfl, rfl⟩, six_kept (HK0.out.trans HKT.out) (by have := HQ.out; omega) _ _ _ _ _ _⟩
set_option maxHeartbeats 4000000 in
set_option maxRecDepth 100000 in
theorem rget_w1_4 (sv : Value) (l0 : List Nat) (f s : Nat) (lo : Option Addr) (lc : Nat) (l : List Bool) (w : World) (hs : SlAt w sv (xvals l0)) (hv : SlAt w (.slice lo l.length lc) (ints l)) (hcap : l.length ≤ lc) (hl0 : l0.length ≤ 1000000) (hl : l.length ≤ 100000000) (h0 : 1 ≤ l0.length) (hb : ∀ x ∈ l0, x < 18446744073709551616) (h : 2 ≤ l.length) (hb0 : l.getD 0 false = true) (hb1 : l.getD 1 false = false) (hok : okW f s) (hS1 : 1 ≤ s) (hFS : f + s ≤ 64) (hsh : s ≤ l.length - 2) (x : Nat) (hx : x = outX f s (numB ((l.drop 2).take s))) (hxl : x < 18446744073709551616) (hne : (putX f s x).1.length ≠ 2 + s) :
    Calls Tryd.prog 42 #[stV sv f s, .slice lo l.length lc] w (RGot w l0 0 0 3 f s) := by
  obtain ⟨ao, ca, rfl, hvr⟩ := hs.val
  clear hvr
  rw [xvals_length] at hs ⊢
  have k0 := ((Kept.refl (fun _ => False) w).alloc (.cells #[.slice ao l0.length ca, .int .i64 (f : Int), .int .i64 (s : Int)] 63)).alloc (.cells #[.int .u64 0, .int .i64 0, .slice none 0 0, .int .i64 0, .int .i64 0, .int .i64 0] 69)
  obtain ⟨wb, hwb⟩ : ∃ w', w' = (w.alloc (.cells #[.slice ao l0.length ca, .int .i64 (f : Int), .int .i64 (s : Int)] 63)).alloc (.cells #[.int .u64 0, .int .i64 0, .slice none 0 0, .int .i64 0, .int .i64 0, .int .i64 0] 69) := ⟨_, rfl⟩
  have kk := fun (w : World) o => (Kept.refl (fun _ => False) w).alloc o
  have b1 : StBox wb w.heap.size (.slice ao l0.length ca) f s := by
    rw [hwb]
    exact (show StBox (w.alloc (.cells #[.slice ao l0.length ca, .int .i64 (f : Int), .int .i64 (s : Int)] 63)) w.heap.size (.slice ao l0.length ca) f s from heap_alloc_new w _).same (kk _ _) (fun x => x)
  have b3 : GBox wb (w.heap.size + 1) 0 0 (.slice none 0 0) 0 0 0 := by
    rw [hwb]
    have := heap_alloc_new (w.alloc (.cells #[.slice ao l0.length ca, .int .i64 (f : Int), .int .i64 (s : Int)] 63)) (.cells #[.int .u64 0, .int .i64 0, .slice none 0 0, .int .i64 0, .int .i64 0, .int .i64 0] 69)
    rw [show (w.alloc (.cells #[.slice ao l0.length ca, .int .i64 (f : Int), .int .i64 (s : Int)] 63)).heap.size = w.heap.size + 1 by simp] at this
    exact this
  rw [← hwb] at k0
  obtain ⟨m, hm⟩ : ∃ m, m = l0.length := ⟨_, rfl⟩
  rw [← hm] at b1 hwb ⊢
  have HBX := Lib.hid fun w' (k : Kept (fun _ => False) wb w') => And.intro (b1.same k (fun x => x)) (b3.same k (fun x => x))
  have HQ := Lib.hid (show w.heap.size + 1 < wb.heap.size from (Array.getElem?_eq_some_iff.1 b3).1)
  have HK0 := Lib.hid k0
  have hsb := hs.kept k0 (fun _ _ x => x)
  have hvb := hv.kept k0 (fun _ _ x => x)
  have HW := Lib.hid hwb
  obtain ⟨d0, d1, d2⟩ := b1.c
  have HLX : Hid (∀ x, (xvals (l0 ++ [x])).length = m + 1) := Lib.hid fun x => by rw [hm]; simp
  have hrefl := Kept.refl (fun _ => False) wb
  have HRF := Lib.hid hrefl
  clear hwb kk b1 b3 hrefl
  have n0 : ((m : Int) == 0) = false := by rw [hm]; exact beq_eq_false_iff_ne.2 (by omega)
  have hlw : ∀ w' (_ : Kept (fun _ => False) wb w'), _ := fun w' k => rlast_any _ l0 f s w' (hsb.kept k (fun _ _ x => x)) hl0
  obtain ⟨L, hL⟩ : ∃ L, L = lastN l0 l0.length := ⟨_, rfl⟩
  have HLAST := Lib.hid hlw
  rw [← hm] at hL HLAST
  rw [← hL] at HLAST
  have huse := And.intro h0 (And.intro hcap (And.intro hl hb))
  clear huse
  unfold stV at HLAST
  obtain ⟨n, hn⟩ : ∃ n, n = l.length := ⟨_, rfl⟩
  have HNN := Lib.hid hn
  clear hlw
  have q1 : ¬ (n : Int) < 1 := by omega
  have q1b : decide (n < 1) = false := decide_eq_false (by omega)
  have q2 : ¬ (n : Int) < 2 := by omega
  have q2b : decide (n < 2) = false := decide_eq_false (by omega)
  obtain ⟨g, off, rfl, _⟩ := hvb.elem (ints_get (l := l) (j := 0) (by omega))
  have HCELL := Lib.hid fun w' (k : Kept (fun _ => False) wb w') i (hi : i < l.length) => show w'.cell? ⟨g, off + i, none⟩ = some (.int .i64 (((l.getD i false).toNat : Nat) : Int)) from by
    obtain ⟨g', off', e, c⟩ := (hvb.kept k (fun _ _ x => x)).elem (ints_get hi)
    cases e; exact c
  have cb0 := HCELL.out wb HRF.out 0 (by omega)
  rw [hb0, Nat.add_zero] at cb0
  have HB1 := Lib.hid fun w' (k : Kept (fun _ => False) wb w') => HCELL.out w' k 1 (by omega)
  rw [hb1] at HB1
  have z0' : (0 : Int) < (n : Int) := by omega
  have z1' : (1 : Int) < (n : Int) := by omega
  have hle := hok.le
  have huse3 := h
  clear huse3
  have zs : ((s : Int) == 0) = false := beq_eq_false_iff_ne.2 (by omega)
  have afs : IntKind.i64.wrap ((f : Int) + (s : Int)) = (f : Int) + (s : Int) := IntWalk.i64_in _ ⟨by omega, by omega⟩
  have zs2 : ¬ (64 : Int) < (f : Int) + (s : Int) := by omega
  have zs3 : decide ((64 : Int) < (f : Int) + (s : Int)) = false := decide_eq_false zs2
  obtain ⟨D, hD⟩ : ∃ D, D = n - 2 := ⟨_, rfl⟩
  have t1 : IntKind.i64.wrap ((n : Int) - 2) = (D : Int) := by rw [IntWalk.i64_in _ ⟨by omega, by omega⟩]; omega
  have t2 : ¬ (D : Int) < (s : Int) := by omega
  have t2b : decide (D < s) = false := decide_eq_false (by omega)
  obtain ⟨N, hN⟩ : ∃ N, N = 2 + s := ⟨_, rfl⟩
  have t3 : IntKind.i64.wrap (2 + (s : Int)) = (N : Int) := by rw [IntWalk.i64_in _ ⟨by omega, by omega⟩]; omega
  have HNL := Lib.hid (show N ≤ n by omega)
  have HNS := Lib.hid (show N ≤ 100 by omega)
  have hcc := hvb.cut (lo := 2) (hi := N) (by omega) (by omega) hcap
  have hNA : N - 2 = s := by omega
  rw [hNA] at hcc
  have icc : ((ints l).drop 2).take s = ints ((l.drop 2).take s) := by unfold ints; rw [← List.map_drop, ← List.map_take]
  rw [icc] at hcc
  obtain ⟨oc, hoc⟩ : ∃ a : Option Addr, a = if lc = 2 then some ⟨g, off, none⟩ else (some (⟨g, off, none⟩ : Addr)).map (·.add 2) := ⟨_, rfl⟩
  rw [← hoc] at hcc
  obtain ⟨iJ, hiJ, hzJ0, hzJ1, hzJ2⟩ := info_parts Tryd.infoInt
  have sc1 : ∀ w, (Instr.slice 26 (.slice (some ⟨g, off, none⟩) n lc) (some (.int .i64 2)) (some (.int .i64 (N : Int))) none).run Tryd.prog w = .ok (.slice oc s (lc - 2)) w := fun w => by
    have := run_cut (P := Tryd.prog) Tryd.underlying26 hiJ hzJ1 (some ⟨g, off, none⟩) n lc 2 N (by omega) (by omega) w
    rw [hNA, ← hoc] at this; exact this
  have sc2 : ∀ w, (Instr.sliceAt 26 (.slice (some ⟨g, off, none⟩) n lc) (some (.int .i64 2)) (some (.int .i64 (N : Int))) none).run Tryd.prog w = .ok (.slice oc s (lc - 2)) w := fun w => by
    have := run_cutAt (P := Tryd.prog) Tryd.underlying26 hiJ hzJ1 (some ⟨g, off, none⟩) n lc 2 N (by omega) (by omega) w
    rw [hNA, ← hoc] at this; exact this
  have HPLC := Lib.hid fun w' (k : Kept (fun _ => False) wb w') => rplaced_any oc (lc - 2) ((l.drop 2).take s) f s w' (hcc.kept k (fun _ _ x => x)) (by rw [List.length_take, List.length_drop]; omega) hS1 hFS
  rw [← hx] at HPLC
  unfold winV at HPLC
  have hLlt := lastN_lt hb l0.length
  rw [← hm, ← hL] at hLlt
  have hxor := u64_xor_nat L x hLlt hxl
  have hVlt := xor_lt L x hLlt hxl
  have hVx : (L ^^^ x) ^^^ L = x := xor_back2 L x
  have hPUT := fun w' (k : Kept (fun _ => False) wb w') => rput_any _ l0 f s (L ^^^ x) w' (hsb.kept k (fun _ _ x => x)) hl0 hb hVlt hok
  have hnp : nextP l0.length (lastN l0 l0.length) f s (L ^^^ x) = putX f s x := by unfold nextP; rw [if_neg (by omega), ← hm, ← hL, hVx]
  rw [hnp, ← hm] at hPUT
  have HPUT := Lib.hid hPUT
  obtain ⟨V, hV⟩ : ∃ V, V = L ^^^ x := ⟨_, rfl⟩
  rw [← hV] at hxor HPUT
  have HLX := Lib.hid (HLX.out V)
  obtain ⟨Q, hQ⟩ : ∃ Q, Q = putX f s x := ⟨_, rfl⟩
  rw [← hQ] at HPUT hne
  obtain ⟨PB, F2, S2⟩ := Q
  simp only at HPUT hne
  unfold RPut stV at HPUT
  rw [← hN] at hne
  obtain ⟨B, hB⟩ : ∃ B, B = PB.length := ⟨_, rfl⟩
  have HBL := Lib.hid hB.symm
  have bne : ((B : Int) != (N : Int)) = true := bne_iff_ne.2 (by omega)
  rw [← hn]
  unfold stV
  clear hs hv hcap hl0 hl hb h0 k0 hm hsb hvb hL hn h hb0 hb1 hok hle hS1 hFS hsh hx hxl hD hN hcc hNA icc hoc hiJ hzJ0 hzJ1 hzJ2 hLlt hVlt hVx hPUT hnp hV hQ hne hB
  go_enter Tryd.func42, Tryd.ntmps42
  go_upto_region 1 with fail
  rw [← HW.out]
  go_upto_region 13 with fail
  obtain ⟨wk, hwk⟩ : ∃ w', w' = wb.alloc (.cells #[.int .i64 (f : Int), .int .i64 (s : Int)] 61) := ⟨_, rfl⟩
  have kk : Kept (fun _ => False) wb wk := by rw [hwk]; exact (Kept.refl _ _).alloc _
  have HKK := Lib.hid kk
  have HWK := Lib.hid (show WinR wk wb.heap.size f s from by rw [hwk]; exact WinR.new wb _ _)
  rw [← hwk]
  clear hwk kk cb0 d0 d1 d2
  have cb1 := HB1.out _ HKK.out
  have HKT := HKK
  have HWT := HWK
  obtain ⟨z0, z1⟩ := HWT.out.c
  go_upto_region 24 with fail
  refine AnyBut.start (S := fun w' => (w'.cell? ⟨w.heap.size, 0, none⟩ = some (.slice ao m ca) ∧ w'.cell? ⟨w.heap.size, 1, none⟩ = some (.int .i64 (f : Int)) ∧ w'.cell? ⟨w.heap.size, 2, none⟩ = some (.int .i64 (s : Int))) ∧ (w'.cell? ⟨wb.heap.size, 0, none⟩ = some (.int .i64 (f : Int)) ∧ w'.cell? ⟨wb.heap.size, 1, none⟩ = some (.int .i64 (s : Int)))) (k := 10) (by kernel_rfl) ?_
  obtain ⟨wd, hwd⟩ : ∃ w', w' = wk.drew := ⟨_, rfl⟩
  have KD := Lib.hid (Kept.trans HKT.out (Kept.refl (fun _ => False) wk).drew)
  rw [← hwd] at KD ⊢
  have HWD := Lib.hid (HWT.out.same (Kept.refl (fun _ => False) wk).drew (fun x => x))
  rw [← hwd] at HWD
  have HSD := Lib.hid (And.intro (HBX.out _ KD.out).1.c HWD.out.c)
  clear hwd
  refine AnyBut.takeS (i := 0) (v := ?v15) rfl (by kernel_rfl) (Nat.le_of_eq (by kernel_rfl)) (by kernel_rfl) (by kernel_rfl) (fun _ _ _ h => h) (HSD.out) (Or.inl ⟨by kernel_rfl, ?hy15⟩) ?r15
  case hy15 =>
    intro w hSw
    try dsimp only at hSw
    go_simp
    try with_reducible rfl
  try simp only [Act.put, List.getElem_toArray, List.getElem_cons_zero, List.setIfInBounds_toArray, List.set_cons_zero, List.set_cons_succ]
  refine AnyBut.takeS (i := 2) (v := ?v16) rfl (by kernel_rfl) (Nat.le_of_eq (by kernel_rfl)) (by kernel_rfl) (by kernel_rfl) (fun _ _ _ h => h) (HSD.out) (Or.inl ⟨by kernel_rfl, ?hy16⟩) ?r16
  case hy16 =>
    intro w hSw
    try dsimp only at hSw
    go_simp
    try with_reducible rfl
  try simp only [Act.put, List.getElem_toArray, List.getElem_cons_succ, List.getElem_cons_zero, List.setIfInBounds_toArray, List.set_cons_zero, List.set_cons_succ]
  refine AnyBut.takeS (i := 3) (v := ?v17) rfl (by kernel_rfl) (Nat.le_of_eq (by kernel_rfl)) (by kernel_rfl) (by kernel_rfl) (fun _ _ _ h => h) (HSD.out) (Or.inl ⟨by kernel_rfl, ?hy17⟩) ?r17
  case hy17 =>
    intro w hSw
    try dsimp only at hSw
    go_simp
    try with_reducible rfl
  try simp only [Act.put, List.getElem_toArray, List.getElem_cons_succ, List.getElem_cons_zero, List.setIfInBounds_toArray, List.set_cons_zero, List.set_cons_succ]
  refine AnyBut.takeS (i := 4) (v := ?v18) rfl (by kernel_rfl) (Nat.le_of_eq (by kernel_rfl)) (by kernel_rfl) (by kernel_rfl) (fun _ _ _ h => h) (HSD.out) (Or.inl ⟨by kernel_rfl, ?hy18⟩) ?r18
  case hy18 =>
    intro w hSw
    try dsimp only at hSw
    go_simp
    try with_reducible rfl
  try simp only [Act.put, List.getElem_toArray, List.getElem_cons_succ, List.getElem_cons_zero, List.setIfInBounds_toArray, List.set_cons_zero, List.set_cons_succ]
  refine AnyBut.takeS (i := 5) (v := ?v19) rfl (by kernel_rfl) (Nat.le_of_eq (by kernel_rfl)) (by kernel_rfl) (by kernel_rfl) (fun _ _ _ h => h) (HSD.out) (Or.inl ⟨by kernel_rfl, ?hy19⟩) ?r19
  case hy19 =>
    intro w hSw
    try dsimp only at hSw
    go_simp
    try with_reducible rfl
  try simp only [Act.put, List.getElem_toArray, List.getElem_cons_succ, List.getElem_cons_zero, List.setIfInBounds_toArray, List.set_cons_zero, List.set_cons_succ]
  refine AnyBut.takeS (i := 6) (v := ?v20) rfl (by kernel_rfl) (Nat.le_of_eq (by kernel_rfl)) (by kernel_rfl) (by kernel_rfl) (fun _ _ _ h => h) (HSD.out) (Or.inl ⟨by kernel_rfl, ?hy20⟩) ?r20
  case hy20 =>
    intro w hSw
    try dsimp only at hSw
    go_simp
    try with_reducible rfl
  try simp only [Act.put, List.getElem_toArray, List.getElem_cons_succ, List.getElem_cons_zero, List.setIfInBounds_toArray, List.set_cons_zero, List.set_cons_succ]
  refine AnyBut.one (i := 1) (by kernel_rfl) rfl (fun K hK => ?_)
  go_simp
  go_wp2_with fail
  refine (HLAST.out _ KD.out).mono ?_
  rintro e w1 ⟨rfl, k1⟩
  have K1 := Lib.hid (KD.out.trans k1)
  have HW1 := Lib.hid (HWD.out.same k1 (fun x => x))
  clear k1
  have HS1 := Lib.hid (And.intro (HBX.out _ K1.out).1.c HW1.out.c)
  go_wp2
  refine hK.out _ _ (HS1.out) ?_
  clear hK K
  try simp only [Act.put, List.getElem_toArray, List.getElem_cons_succ, List.getElem_cons_zero, List.setIfInBounds_toArray, List.set_cons_zero, List.set_cons_succ]
  refine AnyBut.one (i := 7) (by kernel_rfl) rfl (fun K hK => ?_)
  go_simp
  go_wp2_with fail
  refine (HPLC.out _ K1.out).mono ?_
  rintro e w2 ⟨rfl, k2⟩
  have K2 := Lib.hid (K1.out.trans k2)
  have HW2 := Lib.hid (HW1.out.same k2 (fun x => x))
  clear k2
  have HS2 := Lib.hid (And.intro (HBX.out _ K2.out).1.c HW2.out.c)
  go_wp2
  refine hK.out _ _ (HS2.out) ?_
  clear hK K
  try simp only [Act.put, List.getElem_toArray, List.getElem_cons_succ, List.getElem_cons_zero, List.setIfInBounds_toArray, List.set_cons_zero, List.set_cons_succ]
  refine AnyBut.takeS (i := 8) (v := ?v21) rfl (by kernel_rfl) (Nat.le_of_eq (by kernel_rfl)) (by kernel_rfl) (by kernel_rfl) (fun _ _ _ h => h) (HS2.out) (Or.inl ⟨by kernel_rfl, ?hy21⟩) ?r21
  case hy21 =>
    intro w hSw
    try dsimp only at hSw
    go_simp
    try with_reducible rfl
  try simp only [Act.put, List.getElem_toArray, List.getElem_cons_succ, List.getElem_cons_zero, List.setIfInBounds_toArray, List.set_cons_zero, List.set_cons_succ]
  refine AnyBut.takeS (i := 9) (v := ?v22) rfl (by kernel_rfl) (Nat.le_of_eq (by kernel_rfl)) (by kernel_rfl) (by kernel_rfl) (fun _ _ _ h => h) (HS2.out) (Or.inl ⟨by kernel_rfl, ?hy22⟩) ?r22
  case hy22 =>
    intro w hSw
    try dsimp only at hSw
    go_simp
    try with_reducible rfl
  try simp only [Act.put, List.getElem_toArray, List.getElem_cons_succ, List.getElem_cons_zero, List.setIfInBounds_toArray, List.set_cons_zero, List.set_cons_succ]
  refine AnyBut.done (by kernel_rfl) ?_
  clear z0 z1
  obtain ⟨e0, e1, e2⟩ := (HBX.out _ K2.out).1.c
  go_wp2_with fail
  refine (HPUT.out _ K2.out).mono ?_
  rintro e w8 ⟨vb, v8, rfl, mb, ml⟩
  obtain ⟨ba, bc, be⟩ := mb.slice
  rw [ints_length, HBL.out] at be
  subst be
  obtain ⟨av8, cv8, ev⟩ := ml.slice
  rw [HLX.out] at ev
  subst ev
  have HMB := Lib.hid (mb.down K2.out)
  have HV8 := Lib.hid (ml.down K2.out)
  clear mb ml e0 e1 e2
  obtain ⟨w9, hw9⟩ : ∃ w', w' = w8.alloc (.cells #[.slice av8 (m + 1) cv8, .int .i64 (F2 : Int), .int .i64 (S2 : Int)] 63) := ⟨_, rfl⟩
  have k9 : Kept (fun _ => False) w8 w9 := by rw [hw9]; exact (Kept.refl _ _).alloc _
  have b9 : StBox w9 w8.heap.size (.slice av8 (m + 1) cv8) F2 S2 := by rw [hw9]; exact heap_alloc_new w8 _
  have HN9 := Lib.hid fun w' (k : Kept (fun _ => False) w9 w') => b9.same k (fun x => x)
  have HMB9 := Lib.hid (HMB.out.on k9)
  have HV9 := Lib.hid (HV8.out.on k9)
  have HW9 := Lib.hid hw9
  clear hw9 k9 b9
  go_upto_region 26 with fail
  rw [← HW9.out]
  obtain ⟨g0, g1, g2, g3, g4, g5⟩ := (HBX.out _ HV9.out.kept).2.c
  have y0 := (HBX.out _ HV9.out.kept).2.f 0
  have y1 := (HBX.out _ HV9.out.kept).2.f 1
  have y2 := (HBX.out _ HV9.out.kept).2.f 2
  have y3 := (HBX.out _ HV9.out.kept).2.f 3
  have y4 := (HBX.out _ HV9.out.kept).2.f 4
  have y5 := (HBX.out _ HV9.out.kept).2.f 5
  go_wp2
  refine g6_end Tryd.results42 rfl rfl ((HBX.out _ HV9.out.kept).2.set 0 0 (.slice none 0 0) 0 0 3) ?_
  exact ⟨_, 0, 0, 0, 0, rfl, fun h => absurd h (by decide), fun _ => ⟨rfl, rfl, rfl⟩, six_kept (HK0.out.trans HV9.out.kept) (by have := HQ.out; omega) _ _ _ _ _ _⟩
set_option maxHeartbeats 4000000 in
set_option maxRecDepth 100000 in
theorem rget_w1_5 (sv : Value) (l0 : List Nat) (f s : Nat) (lo : Option Addr) (lc : Nat) (l : List Bool) (w : World) (hs : SlAt w sv (xvals l0)) (hv : SlAt w (.slice lo l.length lc) (ints l)) (hcap : l.length ≤ lc) (hl0 : l0.length ≤ 1000000) (hl : l.length ≤ 100000000) (h0 : 1 ≤ l0.length) (hb : ∀ x ∈ l0, x < 18446744073709551616) (h : 2 ≤ l.length) (hb0 : l.getD 0 false = true) (hb1 : l.getD 1 false = false) (hok : okW f s) (hS1 : 1 ≤ s) (hFS : f + s ≤ 64) (hsh : s ≤ l.length - 2) (x : Nat) (hx : x = outX f s (numB ((l.drop 2).take s))) (hxl : x < 18446744073709551616) (hlen : (putX f s x).1.length = 2 + s) (hne : (putX f s x).1 ≠ l.take (2 + s)) :
    Calls Tryd.prog 42 #[stV sv f s, .slice lo l.length lc] w (RGot w l0 0 0 3 f s) := by
  obtain ⟨ao, ca, rfl, hvr⟩ := hs.val
  clear hvr
  rw [xvals_length] at hs ⊢
  have k0 := ((Kept.refl (fun _ => False) w).alloc (.cells #[.slice ao l0.length ca, .int .i64 (f : Int), .int .i64 (s : Int)] 63)).alloc (.cells #[.int .u64 0, .int .i64 0, .slice none 0 0, .int .i64 0, .int .i64 0, .int .i64 0] 69)
  obtain ⟨wb, hwb⟩ : ∃ w', w' = (w.alloc (.cells #[.slice ao l0.length ca, .int .i64 (f : Int), .int .i64 (s : Int)] 63)).alloc (.cells #[.int .u64 0, .int .i64 0, .slice none 0 0, .int .i64 0, .int .i64 0, .int .i64 0] 69) := ⟨_, rfl⟩
  have kk := fun (w : World) o => (Kept.refl (fun _ => False) w).alloc o
  have b1 : StBox wb w.heap.size (.slice ao l0.length ca) f s := by
    rw [hwb]
    exact (show StBox (w.alloc (.cells #[.slice ao l0.length ca, .int .i64 (f : Int), .int .i64 (s : Int)] 63)) w.heap.size (.slice ao l0.length ca) f s from heap_alloc_new w _).same (kk _ _) (fun x => x)
  have b3 : GBox wb (w.heap.size + 1) 0 0 (.slice none 0 0) 0 0 0 := by
    rw [hwb]
    have := heap_alloc_new (w.alloc (.cells #[.slice ao l0.length ca, .int .i64 (f : Int), .int .i64 (s : Int)] 63)) (.cells #[.int .u64 0, .int .i64 0, .slice none 0 0, .int .i64 0, .int .i64 0, .int .i64 0] 69)
    rw [show (w.alloc (.cells #[.slice ao l0.length ca, .int .i64 (f : Int), .int .i64 (s : Int)] 63)).heap.size = w.heap.size + 1 by simp] at this
    exact this
  rw [← hwb] at k0
  obtain ⟨m, hm⟩ : ∃ m, m = l0.length := ⟨_, rfl⟩
  rw [← hm] at b1 hwb ⊢
  have HBX := Lib.hid fun w' (k : Kept (fun _ => False) wb w') => And.intro (b1.same k (fun x => x)) (b3.same k (fun x => x))
  have HQ := Lib.hid (show w.heap.size + 1 < wb.heap.size from (Array.getElem?_eq_some_iff.1 b3).1)
  have HK0 := Lib.hid k0
  have hsb := hs.kept k0 (fun _ _ x => x)
  have hvb := hv.kept k0 (fun _ _ x => x)
  have HW := Lib.hid hwb
  obtain ⟨d0, d1, d2⟩ := b1.c
  have HLX : Hid (∀ x, (xvals (l0 ++ [x])).length = m + 1) := Lib.hid fun x => by rw [hm]; simp
  have hrefl := Kept.refl (fun _ => False) wb
  have HRF := Lib.hid hrefl
  clear hwb kk b1 b3 hrefl
  have n0 : ((m : Int) == 0) = false := by rw [hm]; exact beq_eq_false_iff_ne.2 (by omega)
  have hlw : ∀ w' (_ : Kept (fun _ => False) wb w'), _ := fun w' k => rlast_any _ l0 f s w' (hsb.kept k (fun _ _ x => x)) hl0
  obtain ⟨L, hL⟩ : ∃ L, L = lastN l0 l0.length := ⟨_, rfl⟩
  have HLAST := Lib.hid hlw
  rw [← hm] at hL HLAST
  rw [← hL] at HLAST
  have huse := And.intro h0 (And.intro hcap (And.intro hl hb))
  clear huse
  unfold stV at HLAST
  obtain ⟨n, hn⟩ : ∃ n, n = l.length := ⟨_, rfl⟩
  have HNN := Lib.hid hn
  clear hlw
  have q1 : ¬ (n : Int) < 1 := by omega
  have q1b : decide (n < 1) = false := decide_eq_false (by omega)
  have q2 : ¬ (n : Int) < 2 := by omega
  have q2b : decide (n < 2) = false := decide_eq_false (by omega)
  obtain ⟨g, off, rfl, _⟩ := hvb.elem (ints_get (l := l) (j := 0) (by omega))
  have HCELL := Lib.hid fun w' (k : Kept (fun _ => False) wb w') i (hi : i < l.length) => show w'.cell? ⟨g, off + i, none⟩ = some (.int .i64 (((l.getD i false).toNat : Nat) : Int)) from by
    obtain ⟨g', off', e, c⟩ := (hvb.kept k (fun _ _ x => x)).elem (ints_get hi)
    cases e; exact c
  have cb0 := HCELL.out wb HRF.out 0 (by omega)
  rw [hb0, Nat.add_zero] at cb0
  have HB1 := Lib.hid fun w' (k : Kept (fun _ => False) wb w') => HCELL.out w' k 1 (by omega)
  rw [hb1] at HB1
  have z0' : (0 : Int) < (n : Int) := by omega
  have z1' : (1 : Int) < (n : Int) := by omega
  have hle := hok.le
  have huse3 := h
  clear huse3
  have zs : ((s : Int) == 0) = false := beq_eq_false_iff_ne.2 (by omega)
  have afs : IntKind.i64.wrap ((f : Int) + (s : Int)) = (f : Int) + (s : Int) := IntWalk.i64_in _ ⟨by omega, by omega⟩
  have zs2 : ¬ (64 : Int) < (f : Int) + (s : Int) := by omega
  have zs3 : decide ((64 : Int) < (f : Int) + (s : Int)) = false := decide_eq_false zs2
  obtain ⟨D, hD⟩ : ∃ D, D = n - 2 := ⟨_, rfl⟩
  have t1 : IntKind.i64.wrap ((n : Int) - 2) = (D : Int) := by rw [IntWalk.i64_in _ ⟨by omega, by omega⟩]; omega
  have t2 : ¬ (D : Int) < (s : Int) := by omega
  have t2b : decide (D < s) = false := decide_eq_false (by omega)
  obtain ⟨N, hN⟩ : ∃ N, N = 2 + s := ⟨_, rfl⟩
  have t3 : IntKind.i64.wrap (2 + (s : Int)) = (N : Int) := by rw [IntWalk.i64_in _ ⟨by omega, by omega⟩]; omega
  have HNL := Lib.hid (show N ≤ n by omega)
  have HNS := Lib.hid (show N ≤ 100 by omega)
  have hcc := hvb.cut (lo := 2) (hi := N) (by omega) (by omega) hcap
  have hNA : N - 2 = s := by omega
  rw [hNA] at hcc
  have icc : ((ints l).drop 2).take s = ints ((l.drop 2).take s) := by unfold ints; rw [← List.map_drop, ← List.map_take]
  rw [icc] at hcc
  obtain ⟨oc, hoc⟩ : ∃ a : Option Addr, a = if lc = 2 then some ⟨g, off, none⟩ else (some (⟨g, off, none⟩ : Addr)).map (·.add 2) := ⟨_, rfl⟩
  rw [← hoc] at hcc
  obtain ⟨iJ, hiJ, hzJ0, hzJ1, hzJ2⟩ := info_parts Tryd.infoInt
  have sc1 : ∀ w, (Instr.slice 26 (.slice (some ⟨g, off, none⟩) n lc) (some (.int .i64 2)) (some (.int .i64 (N : Int))) none).run Tryd.prog w = .ok (.slice oc s (lc - 2)) w := fun w => by
    have := run_cut (P := Tryd.prog) Tryd.underlying26 hiJ hzJ1 (some ⟨g, off, none⟩) n lc 2 N (by omega) (by omega) w
    rw [hNA, ← hoc] at this; exact this
  have sc2 : ∀ w, (Instr.sliceAt 26 (.slice (some ⟨g, off, none⟩) n lc) (some (.int .i64 2)) (some (.int .i64 (N : Int))) none).run Tryd.prog w = .ok (.slice oc s (lc - 2)) w := fun w => by
    have := run_cutAt (P := Tryd.prog) Tryd.underlying26 hiJ hzJ1 (some ⟨g, off, none⟩) n lc 2 N (by omega) (by omega) w
    rw [hNA, ← hoc] at this; exact this
  have HPLC := Lib.hid fun w' (k : Kept (fun _ => False) wb w') => rplaced_any oc (lc - 2) ((l.drop 2).take s) f s w' (hcc.kept k (fun _ _ x => x)) (by rw [List.length_take, List.length_drop]; omega) hS1 hFS
  rw [← hx] at HPLC
  unfold winV at HPLC
  have hLlt := lastN_lt hb l0.length
  rw [← hm, ← hL] at hLlt
  have hxor := u64_xor_nat L x hLlt hxl
  have hVlt := xor_lt L x hLlt hxl
  have hVx : (L ^^^ x) ^^^ L = x := xor_back2 L x
  have hPUT := fun w' (k : Kept (fun _ => False) wb w') => rput_any _ l0 f s (L ^^^ x) w' (hsb.kept k (fun _ _ x => x)) hl0 hb hVlt hok
  have hnp : nextP l0.length (lastN l0 l0.length) f s (L ^^^ x) = putX f s x := by unfold nextP; rw [if_neg (by omega), ← hm, ← hL, hVx]
  rw [hnp, ← hm] at hPUT
  have HPUT := Lib.hid hPUT
  obtain ⟨V, hV⟩ : ∃ V, V = L ^^^ x := ⟨_, rfl⟩
  rw [← hV] at hxor HPUT
  have HLX := Lib.hid (HLX.out V)
  obtain ⟨Q, hQ⟩ : ∃ Q, Q = putX f s x := ⟨_, rfl⟩
  rw [← hQ] at HPUT hlen hne
  obtain ⟨PB, F2, S2⟩ := Q
  simp only at HPUT hlen hne
  unfold RPut stV at HPUT
  rw [← hN] at hlen hne
  have HBL := Lib.hid hlen
  have bne : ((N : Int) != (N : Int)) = false := by simp
  have HNQ := Lib.hid (show ¬ ∀ j, j < N → PB.getD j false = l.getD j false from fun h => hne (take_eq PB l N hlen (by omega) h))
  rw [← hn]
  unfold stV
  clear hs hv hcap hl0 hl hb h0 k0 hm hsb hvb hL hn h hb0 hb1 hok hle hS1 hFS hsh hx hxl hD hN hcc hNA icc hoc hiJ hzJ0 hzJ1 hzJ2 hLlt hVlt hVx hPUT hnp hV hQ hne hlen
  go_enter Tryd.func42, Tryd.ntmps42
  go_upto_region 1 with fail
  rw [← HW.out]
  go_upto_region 13 with fail
  obtain ⟨wk, hwk⟩ : ∃ w', w' = wb.alloc (.cells #[.int .i64 (f : Int), .int .i64 (s : Int)] 61) := ⟨_, rfl⟩
  have kk : Kept (fun _ => False) wb wk := by rw [hwk]; exact (Kept.refl _ _).alloc _
  have HKK := Lib.hid kk
  have HWK := Lib.hid (show WinR wk wb.heap.size f s from by rw [hwk]; exact WinR.new wb _ _)
  rw [← hwk]
  clear hwk kk cb0 d0 d1 d2
  have cb1 := HB1.out _ HKK.out
  have HKT := HKK
  have HWT := HWK
  obtain ⟨z0, z1⟩ := HWT.out.c
  go_upto_region 24 with fail
  refine AnyBut.start (S := fun w' => (w'.cell? ⟨w.heap.size, 0, none⟩ = some (.slice ao m ca) ∧ w'.cell? ⟨w.heap.size, 1, none⟩ = some (.int .i64 (f : Int)) ∧ w'.cell? ⟨w.heap.size, 2, none⟩ = some (.int .i64 (s : Int))) ∧ (w'.cell? ⟨wb.heap.size, 0, none⟩ = some (.int .i64 (f : Int)) ∧ w'.cell? ⟨wb.heap.size, 1, none⟩ = some (.int .i64 (s : Int)))) (k := 10) (by kernel_rfl) ?_
  obtain ⟨wd, hwd⟩ : ∃ w', w' = wk.drew := ⟨_, rfl⟩
  have KD := Lib.hid (Kept.trans HKT.out (Kept.refl (fun _ => False) wk).drew)
  rw [← hwd] at KD ⊢
  have HWD := Lib.hid (HWT.out.same (Kept.refl (fun _ => False) wk).drew (fun x => x))
  rw [← hwd] at HWD
  have HSD := Lib.hid (And.intro (HBX.out _ KD.out).1.c HWD.out.c)
  clear hwd
  refine AnyBut.takeS (i := 0) (v := ?v23) rfl (by kernel_rfl) (Nat.le_of_eq (by kernel_rfl)) (by kernel_rfl) (by kernel_rfl) (fun _ _ _ h => h) (HSD.out) (Or.inl ⟨by kernel_rfl, ?hy23⟩) ?r23
  case hy23 =>
    intro w hSw
    try dsimp only at hSw
    go_simp
    try with_reducible rfl
  try simp only [Act.put, List.getElem_toArray, List.getElem_cons_zero, List.setIfInBounds_toArray, List.set_cons_zero, List.set_cons_succ]
  refine AnyBut.takeS (i := 2) (v := ?v24) rfl (by kernel_rfl) (Nat.le_of_eq (by kernel_rfl)) (by kernel_rfl) (by kernel_rfl) (fun _ _ _ h => h) (HSD.out) (Or.inl ⟨by kernel_rfl, ?hy24⟩) ?r24
  case hy24 =>
    intro w hSw
    try dsimp only at hSw
    go_simp
    try with_reducible rfl
  try simp only [Act.put, List.getElem_toArray, List.getElem_cons_succ, List.getElem_cons_zero, List.setIfInBounds_toArray, List.set_cons_zero, List.set_cons_succ]
  refine AnyBut.takeS (i := 3) (v := ?v25) rfl (by kernel_rfl) (Nat.le_of_eq (by kernel_rfl)) (by kernel_rfl) (by kernel_rfl) (fun _ _ _ h => h) (HSD.out) (Or.inl ⟨by kernel_rfl, ?hy25⟩) ?r25
  case hy25 =>
    intro w hSw
    try dsimp only at hSw
    go_simp
    try with_reducible rfl
  try simp only [Act.put, List.getElem_toArray, List.getElem_cons_succ, List.getElem_cons_zero, List.setIfInBounds_toArray, List.set_cons_zero, List.set_cons_succ]
  refine AnyBut.takeS (i := 4) (v := ?v26) rfl (by kernel_rfl) (Nat.le_of_eq (by kernel_rfl)) (by kernel_rfl) (by kernel_rfl) (fun _ _ _ h => h) (HSD.out) (Or.inl ⟨by kernel_rfl, ?hy26⟩) ?r26
  case hy26 =>
    intro w hSw
    try dsimp only at hSw
    go_simp
    try with_reducible rfl
  try simp only [Act.put, List.getElem_toArray, List.getElem_cons_succ, List.getElem_cons_zero, List.setIfInBounds_toArray, List.set_cons_zero, List.set_cons_succ]
  refine AnyBut.takeS (i := 5) (v := ?v27) rfl (by kernel_rfl) (Nat.le_of_eq (by kernel_rfl)) (by kernel_rfl) (by kernel_rfl) (fun _ _ _ h => h) (HSD.out) (Or.inl ⟨by kernel_rfl, ?hy27⟩) ?r27
  case hy27 =>
    intro w hSw
    try dsimp only at hSw
    go_simp
    try with_reducible rfl
  try simp only [Act.put, List.getElem_toArray, List.getElem_cons_succ, List.getElem_cons_zero, List.setIfInBounds_toArray, List.set_cons_zero, List.set_cons_succ]
  refine AnyBut.takeS (i := 6) (v := ?v28) rfl (by kernel_rfl) (Nat.le_of_eq (by kernel_rfl)) (by kernel_rfl) (by kernel_rfl) (fun _ _ _ h => h) (HSD.out) (Or.inl ⟨by kernel_rfl, ?hy28⟩) ?r28
  case hy28 =>
    intro w hSw
    try dsimp only at hSw
    go_simp
    try with_reducible rfl
  try simp only [Act.put, List.getElem_toArray, List.getElem_cons_succ, List.getElem_cons_zero, List.setIfInBounds_toArray, List.set_cons_zero, List.set_cons_succ]
  refine AnyBut.one (i := 1) (by kernel_rfl) rfl (fun K hK => ?_)
  go_simp
  go_wp2_with fail
  refine (HLAST.out _ KD.out).mono ?_
  rintro e w1 ⟨rfl, k1⟩
  have K1 := Lib.hid (KD.out.trans k1)
  have HW1 := Lib.hid (HWD.out.same k1 (fun x => x))
  clear k1
  have HS1 := Lib.hid (And.intro (HBX.out _ K1.out).1.c HW1.out.c)
  go_wp2
  refine hK.out _ _ (HS1.out) ?_
  clear hK K
  try simp only [Act.put, List.getElem_toArray, List.getElem_cons_succ, List.getElem_cons_zero, List.setIfInBounds_toArray, List.set_cons_zero, List.set_cons_succ]
  refine AnyBut.one (i := 7) (by kernel_rfl) rfl (fun K hK => ?_)
  go_simp
  go_wp2_with fail
  refine (HPLC.out _ K1.out).mono ?_
  rintro e w2 ⟨rfl, k2⟩
  have K2 := Lib.hid (K1.out.trans k2)
  have HW2 := Lib.hid (HW1.out.same k2 (fun x => x))
  clear k2
  have HS2 := Lib.hid (And.intro (HBX.out _ K2.out).1.c HW2.out.c)
  go_wp2
  refine hK.out _ _ (HS2.out) ?_
  clear hK K
  try simp only [Act.put, List.getElem_toArray, List.getElem_cons_succ, List.getElem_cons_zero, List.setIfInBounds_toArray, List.set_cons_zero, List.set_cons_succ]
  refine AnyBut.takeS (i := 8) (v := ?v29) rfl (by kernel_rfl) (Nat.le_of_eq (by kernel_rfl)) (by kernel_rfl) (by kernel_rfl) (fun _ _ _ h => h) (HS2.out) (Or.inl ⟨by kernel_rfl, ?hy29⟩) ?r29
  case hy29 =>
    intro w hSw
    try dsimp only at hSw
    go_simp
    try with_reducible rfl
  try simp only [Act.put, List.getElem_toArray, List.getElem_cons_succ, List.getElem_cons_zero, List.setIfInBounds_toArray, List.set_cons_zero, List.set_cons_succ]
  refine AnyBut.takeS (i := 9) (v := ?v30) rfl (by kernel_rfl) (Nat.le_of_eq (by kernel_rfl)) (by kernel_rfl) (by kernel_rfl) (fun _ _ _ h => h) (HS2.out) (Or.inl ⟨by kernel_rfl, ?hy30⟩) ?r30
  case hy30 =>
    intro w hSw
    try dsimp only at hSw
    go_simp
    try with_reducible rfl
  try simp only [Act.put, List.getElem_toArray, List.getElem_cons_succ, List.getElem_cons_zero, List.setIfInBounds_toArray, List.set_cons_zero, List.set_cons_succ]
  refine AnyBut.done (by kernel_rfl) ?_
  clear z0 z1
  obtain ⟨e0, e1, e2⟩ := (HBX.out _ K2.out).1.c
  go_wp2_with fail
  refine (HPUT.out _ K2.out).mono ?_
  rintro e w8 ⟨vb, v8, rfl, mb, ml⟩
  obtain ⟨ba, bc, be⟩ := mb.slice
  rw [ints_length, HBL.out] at be
  subst be
  obtain ⟨av8, cv8, ev⟩ := ml.slice
  rw [HLX.out] at ev
  subst ev
  have HMB := Lib.hid (mb.down K2.out)
  have HV8 := Lib.hid (ml.down K2.out)
  clear mb ml e0 e1 e2
  obtain ⟨w9, hw9⟩ : ∃ w', w' = w8.alloc (.cells #[.slice av8 (m + 1) cv8, .int .i64 (F2 : Int), .int .i64 (S2 : Int)] 63) := ⟨_, rfl⟩
  have k9 : Kept (fun _ => False) w8 w9 := by rw [hw9]; exact (Kept.refl _ _).alloc _
  have b9 : StBox w9 w8.heap.size (.slice av8 (m + 1) cv8) F2 S2 := by rw [hw9]; exact heap_alloc_new w8 _
  have HN9 := Lib.hid fun w' (k : Kept (fun _ => False) w9 w') => b9.same k (fun x => x)
  have HMB9 := Lib.hid (HMB.out.on k9)
  have HV9 := Lib.hid (HV8.out.on k9)
  have HW9 := Lib.hid hw9
  clear hw9 k9 b9
  go_upto_region 26 with fail
  rw [← HW9.out]
  go_wp2
  go_loopg [12] N (fun g3 s12 wr => ∃ i : Nat, i ≤ N ∧ g3 = N - i ∧ s12 = .int .i64 i ∧ Kept (fun _ => False) w9 wr ∧ ∀ j, j < i → PB.getD j false = l.getD j false)
  case atStart => exact ⟨0, Nat.zero_le _, rfl, rfl, Kept.refl _ _, fun j hj => absurd hj (Nat.not_lt_zero j)⟩
  case round =>
    obtain ⟨i, hil, rfl, rfl, kr, hall⟩ := hrel
    have HKR := Lib.hid kr
    have HALL := Lib.hid hall
    clear hall
    clear kr
    by_cases hd : i < N
    · have hdi : (i : Int) < (N : Int) := by omega
      have i0 : (0 : Int) ≤ (i : Int) := by omega
      have HD := Lib.hid hd
      have i1 : IntKind.i64.wrap ((i : Int) + 1) = (i : Int) + 1 := IntWalk.i64_in _ ⟨by omega, by have := HNS.out; omega⟩
      have inl : (i : Int) < (n : Int) := by have := HNL.out; omega
      obtain ⟨bg, boff, hba, _⟩ := HMB9.out.at_.elem (ints_get (l := PB) (j := i) (by have := HBL.out; omega))
      have ca2 := HCELL.out _ (HMB9.out.kept.trans HKR.out) i (by have := HNL.out; have := HNN.out; omega)
      obtain ⟨bg', boff', hba', cb2⟩ := (HMB9.out.on HKR.out).at_.elem (ints_get (l := PB) (j := i) (by have := HBL.out; omega))
      subst hba
      cases hba'
      by_cases hbe : PB.getD i false = l.getD i false
      · rw [hbe] at cb2
        obtain ⟨b, hb⟩ : ∃ b, b = (l.getD i false).toNat := ⟨_, rfl⟩
        rw [← hb] at ca2 cb2
        have bb : ((b : Int) != (b : Int)) = false := by simp
        have HBE := Lib.hid hbe
        clear hd hbe hb
        go_wp2
        go_quiet (fail)
        obtain ⟨wq, hwq⟩ : ∃ wq, wq = wr.drewN nq := ⟨_, rfl⟩
        have KQ := Lib.hid (HKR.out.trans ((Kept.refl (fun _ => False) wr).drewN nq))
        rw [← hwq] at KQ ⊢
        clear hwq
        go_wp2
        go_roundg (N - (i + 1))
        case measure => have := HD.out; omega
        case rel =>
          refine ⟨i + 1, HD.out, rfl, by go_num, KQ.out, fun j hj => ?_⟩
          by_cases hji : j < i
          · exact HALL.out j hji
          · obtain rfl : j = i := by omega
            exact HBE.out
      · obtain ⟨b, hb⟩ : ∃ b, b = (l.getD i false).toNat := ⟨_, rfl⟩
        obtain ⟨b', hb'⟩ : ∃ b, b = (PB.getD i false).toNat := ⟨_, rfl⟩
        rw [← hb] at ca2
        rw [← hb'] at cb2
        have bb : ((b' : Int) != (b : Int)) = true := bne_bits _ _ _ _ hb' hb hbe
        clear hd hbe hb hb'
        go_wp2
        go_quiet (fail)
        obtain ⟨wq, hwq⟩ : ∃ wq, wq = wr.drewN nq := ⟨_, rfl⟩
        have KQ := Lib.hid (HKR.out.trans ((Kept.refl (fun _ => False) wr).drewN nq))
        rw [← hwq] at KQ ⊢
        clear hwq
        obtain ⟨g0, g1, g2, g3, g4, g5⟩ := (HBX.out _ (HV9.out.kept.trans KQ.out)).2.c
        have y0 := (HBX.out _ (HV9.out.kept.trans KQ.out)).2.f 0
        have y1 := (HBX.out _ (HV9.out.kept.trans KQ.out)).2.f 1
        have y2 := (HBX.out _ (HV9.out.kept.trans KQ.out)).2.f 2
        have y3 := (HBX.out _ (HV9.out.kept.trans KQ.out)).2.f 3
        have y4 := (HBX.out _ (HV9.out.kept.trans KQ.out)).2.f 4
        have y5 := (HBX.out _ (HV9.out.kept.trans KQ.out)).2.f 5
        go_wp2
        refine g6_end Tryd.results42 rfl rfl ((HBX.out _ (HV9.out.kept.trans KQ.out)).2.set 0 0 (.slice none 0 0) 0 0 3) ?_
        exact ⟨_, 0, 0, 0, 0, rfl, fun h => absurd h (by decide), fun _ => ⟨rfl, rfl, rfl⟩, six_kept (HK0.out.trans (HV9.out.kept.trans KQ.out)) (by have := HQ.out; omega) _ _ _ _ _ _⟩
    · obtain rfl : i = N := by omega
      exact absurd HALL.out HNQ.out
set_option maxHeartbeats 4000000 in
set_option maxRecDepth 100000 in
theorem rget_w1_6 (sv : Value) (l0 : List Nat) (f s : Nat) (lo : Option Addr) (lc : Nat) (l : List Bool) (w : World) (hs : SlAt w sv (xvals l0)) (hv : SlAt w (.slice lo l.length lc) (ints l)) (hcap : l.length ≤ lc) (hl0 : l0.length ≤ 1000000) (hl : l.length ≤ 100000000) (h0 : 1 ≤ l0.length) (hb : ∀ x ∈ l0, x < 18446744073709551616) (h : 2 ≤ l.length) (hb0 : l.getD 0 false = true) (hb1 : l.getD 1 false = false) (hok : okW f s) (hS1 : 1 ≤ s) (hFS : f + s ≤ 64) (hsh : s ≤ l.length - 2) (x : Nat) (hx : x = outX f s (numB ((l.drop 2).take s))) (hxl : x < 18446744073709551616) (heq : (putX f s x).1 = l.take (2 + s)) :
    Calls Tryd.prog 42 #[stV sv f s, .slice lo l.length lc] w (RGot w l0 (lastN l0 l0.length ^^^ x) (2 + s) 0 (putX f s x).2.1 (putX f s x).2.2) := by
  obtain ⟨ao, ca, rfl, hvr⟩ := hs.val
  clear hvr
  rw [xvals_length] at hs ⊢
  have k0 := ((Kept.refl (fun _ => False) w).alloc (.cells #[.slice ao l0.length ca, .int .i64 (f : Int), .int .i64 (s : Int)] 63)).alloc (.cells #[.int .u64 0, .int .i64 0, .slice none 0 0, .int .i64 0, .int .i64 0, .int .i64 0] 69)
  obtain ⟨wb, hwb⟩ : ∃ w', w' = (w.alloc (.cells #[.slice ao l0.length ca, .int .i64 (f : Int), .int .i64 (s : Int)] 63)).alloc (.cells #[.int .u64 0, .int .i64 0, .slice none 0 0, .int .i64 0, .int .i64 0, .int .i64 0] 69) := ⟨_, rfl⟩
  have kk := fun (w : World) o => (Kept.refl (fun _ => False) w).alloc o
  have b1 : StBox wb w.heap.size (.slice ao l0.length ca) f s := by
    rw [hwb]
    exact (show StBox (w.alloc (.cells #[.slice ao l0.length ca, .int .i64 (f : Int), .int .i64 (s : Int)] 63)) w.heap.size (.slice ao l0.length ca) f s from heap_alloc_new w _).same (kk _ _) (fun x => x)
  have b3 : GBox wb (w.heap.size + 1) 0 0 (.slice none 0 0) 0 0 0 := by
    rw [hwb]
    have := heap_alloc_new (w.alloc (.cells #[.slice ao l0.length ca, .int .i64 (f : Int), .int .i64 (s : Int)] 63)) (.cells #[.int .u64 0, .int .i64 0, .slice none 0 0, .int .i64 0, .int .i64 0, .int .i64 0] 69)
    rw [show (w.alloc (.cells #[.slice ao l0.length ca, .int .i64 (f : Int), .int .i64 (s : Int)] 63)).heap.size = w.heap.size + 1 by simp] at this
    exact this
  rw [← hwb] at k0
  obtain ⟨m, hm⟩ : ∃ m, m = l0.length := ⟨_, rfl⟩
  rw [← hm] at b1 hwb ⊢
  have HBX := Lib.hid fun w' (k : Kept (fun _ => False) wb w') => And.intro (b1.same k (fun x => x)) (b3.same k (fun x => x))
  have HQ := Lib.hid (show w.heap.size + 1 < wb.heap.size from (Array.getElem?_eq_some_iff.1 b3).1)
  have HK0 := Lib.hid k0
  have hsb := hs.kept k0 (fun _ _ x => x)
  have hvb := hv.kept k0 (fun _ _ x => x)
  have HW := Lib.hid hwb
  obtain ⟨d0, d1, d2⟩ := b1.c
  have HLX : Hid (∀ x, (xvals (l0 ++ [x])).length = m + 1) := Lib.hid fun x => by rw [hm]; simp
  have hrefl := Kept.refl (fun _ => False) wb
  have HRF := Lib.hid hrefl
  clear hwb kk b1 b3 hrefl
  have n0 : ((m : Int) == 0) = false := by rw [hm]; exact beq_eq_false_iff_ne.2 (by omega)
  have hlw : ∀ w' (_ : Kept (fun _ => False) wb w'), _ := fun w' k => rlast_any _ l0 f s w' (hsb.kept k (fun _ _ x => x)) hl0
  obtain ⟨L, hL⟩ : ∃ L, L = lastN l0 l0.length := ⟨_, rfl⟩
  have HLAST := Lib.hid hlw
  rw [← hm] at hL HLAST
  rw [← hL] at HLAST
  have huse := And.intro h0 (And.intro hcap (And.intro hl hb))
  clear huse
  unfold stV at HLAST
  obtain ⟨n, hn⟩ : ∃ n, n = l.length := ⟨_, rfl⟩
  have HNN := Lib.hid hn
  clear hlw
  have q1 : ¬ (n : Int) < 1 := by omega
  have q1b : decide (n < 1) = false := decide_eq_false (by omega)
  have q2 : ¬ (n : Int) < 2 := by omega
  have q2b : decide (n < 2) = false := decide_eq_false (by omega)
  obtain ⟨g, off, rfl, _⟩ := hvb.elem (ints_get (l := l) (j := 0) (by omega))
  have HCELL := Lib.hid fun w' (k : Kept (fun _ => False) wb w') i (hi : i < l.length) => show w'.cell? ⟨g, off + i, none⟩ = some (.int .i64 (((l.getD i false).toNat : Nat) : Int)) from by
    obtain ⟨g', off', e, c⟩ := (hvb.kept k (fun _ _ x => x)).elem (ints_get hi)
    cases e; exact c
  have cb0 := HCELL.out wb HRF.out 0 (by omega)
  rw [hb0, Nat.add_zero] at cb0
  have HB1 := Lib.hid fun w' (k : Kept (fun _ => False) wb w') => HCELL.out w' k 1 (by omega)
  rw [hb1] at HB1
  have z0' : (0 : Int) < (n : Int) := by omega
  have z1' : (1 : Int) < (n : Int) := by omega
  have hle := hok.le
  have huse3 := h
  clear huse3
  have hlen : (putX f s x).1.length = 2 + s := by rw [heq, List.length_take]; omega
  have zs : ((s : Int) == 0) = false := beq_eq_false_iff_ne.2 (by omega)
  have afs : IntKind.i64.wrap ((f : Int) + (s : Int)) = (f : Int) + (s : Int) := IntWalk.i64_in _ ⟨by omega, by omega⟩
  have zs2 : ¬ (64 : Int) < (f : Int) + (s : Int) := by omega
  have zs3 : decide ((64 : Int) < (f : Int) + (s : Int)) = false := decide_eq_false zs2
  obtain ⟨D, hD⟩ : ∃ D, D = n - 2 := ⟨_, rfl⟩
  have t1 : IntKind.i64.wrap ((n : Int) - 2) = (D : Int) := by rw [IntWalk.i64_in _ ⟨by omega, by omega⟩]; omega
  have t2 : ¬ (D : Int) < (s : Int) := by omega
  have t2b : decide (D < s) = false := decide_eq_false (by omega)
  obtain ⟨N, hN⟩ : ∃ N, N = 2 + s := ⟨_, rfl⟩
  have t3 : IntKind.i64.wrap (2 + (s : Int)) = (N : Int) := by rw [IntWalk.i64_in _ ⟨by omega, by omega⟩]; omega
  have HNL := Lib.hid (show N ≤ n by omega)
  have HNS := Lib.hid (show N ≤ 100 by omega)
  have hcc := hvb.cut (lo := 2) (hi := N) (by omega) (by omega) hcap
  have hNA : N - 2 = s := by omega
  rw [hNA] at hcc
  have icc : ((ints l).drop 2).take s = ints ((l.drop 2).take s) := by unfold ints; rw [← List.map_drop, ← List.map_take]
  rw [icc] at hcc
  obtain ⟨oc, hoc⟩ : ∃ a : Option Addr, a = if lc = 2 then some ⟨g, off, none⟩ else (some (⟨g, off, none⟩ : Addr)).map (·.add 2) := ⟨_, rfl⟩
  rw [← hoc] at hcc
  obtain ⟨iJ, hiJ, hzJ0, hzJ1, hzJ2⟩ := info_parts Tryd.infoInt
  have sc1 : ∀ w, (Instr.slice 26 (.slice (some ⟨g, off, none⟩) n lc) (some (.int .i64 2)) (some (.int .i64 (N : Int))) none).run Tryd.prog w = .ok (.slice oc s (lc - 2)) w := fun w => by
    have := run_cut (P := Tryd.prog) Tryd.underlying26 hiJ hzJ1 (some ⟨g, off, none⟩) n lc 2 N (by omega) (by omega) w
    rw [hNA, ← hoc] at this; exact this
  have sc2 : ∀ w, (Instr.sliceAt 26 (.slice (some ⟨g, off, none⟩) n lc) (some (.int .i64 2)) (some (.int .i64 (N : Int))) none).run Tryd.prog w = .ok (.slice oc s (lc - 2)) w := fun w => by
    have := run_cutAt (P := Tryd.prog) Tryd.underlying26 hiJ hzJ1 (some ⟨g, off, none⟩) n lc 2 N (by omega) (by omega) w
    rw [hNA, ← hoc] at this; exact this
  have HPLC := Lib.hid fun w' (k : Kept (fun _ => False) wb w') => rplaced_any oc (lc - 2) ((l.drop 2).take s) f s w' (hcc.kept k (fun _ _ x => x)) (by rw [List.length_take, List.length_drop]; omega) hS1 hFS
  rw [← hx] at HPLC
  unfold winV at HPLC
  have hLlt := lastN_lt hb l0.length
  rw [← hm, ← hL] at hLlt
  have hxor := u64_xor_nat L x hLlt hxl
  have hVlt := xor_lt L x hLlt hxl
  have hVx : (L ^^^ x) ^^^ L = x := xor_back2 L x
  have hPUT := fun w' (k : Kept (fun _ => False) wb w') => rput_any _ l0 f s (L ^^^ x) w' (hsb.kept k (fun _ _ x => x)) hl0 hb hVlt hok
  have hnp : nextP l0.length (lastN l0 l0.length) f s (L ^^^ x) = putX f s x := by unfold nextP; rw [if_neg (by omega), ← hm, ← hL, hVx]
  rw [hnp, ← hm] at hPUT
  rw [← hL] at ⊢
  have HPUT := Lib.hid hPUT
  obtain ⟨V, hV⟩ : ∃ V, V = L ^^^ x := ⟨_, rfl⟩
  rw [← hV] at hxor HPUT ⊢
  have HLX := Lib.hid (HLX.out V)
  obtain ⟨Q, hQ⟩ : ∃ Q, Q = putX f s x := ⟨_, rfl⟩
  rw [← hQ] at HPUT hlen heq ⊢
  obtain ⟨PB, F2, S2⟩ := Q
  simp only at HPUT hlen heq ⊢
  unfold RPut stV at HPUT
  rw [← hN] at hlen heq ⊢
  have HBL := Lib.hid hlen
  have bne : ((N : Int) != (N : Int)) = false := by simp
  have HEQ := Lib.hid (show ∀ j, j < N → PB.getD j false = l.getD j false from fun j hj => by rw [heq, List.getD_eq_getElem?_getD, List.getD_eq_getElem?_getD, List.getElem?_take, if_pos hj])
  rw [← hn]
  unfold stV
  clear hs hv hcap hl0 hl hb h0 k0 hm hsb hvb hL hn h hb0 hb1 hok hle hS1 hFS hsh hx hxl hD hN hcc hNA icc hoc hiJ hzJ0 hzJ1 hzJ2 hLlt hVlt hVx hPUT hnp hV hQ heq hlen
  go_enter Tryd.func42, Tryd.ntmps42
  go_upto_region 1 with fail
  rw [← HW.out]
  go_upto_region 13 with fail
  obtain ⟨wk, hwk⟩ : ∃ w', w' = wb.alloc (.cells #[.int .i64 (f : Int), .int .i64 (s : Int)] 61) := ⟨_, rfl⟩
  have kk : Kept (fun _ => False) wb wk := by rw [hwk]; exact (Kept.refl _ _).alloc _
  have HKK := Lib.hid kk
  have HWK := Lib.hid (show WinR wk wb.heap.size f s from by rw [hwk]; exact WinR.new wb _ _)
  rw [← hwk]
  clear hwk kk cb0 d0 d1 d2
  have cb1 := HB1.out _ HKK.out
  have HKT := HKK
  have HWT := HWK
  obtain ⟨z0, z1⟩ := HWT.out.c
  go_upto_region 24 with fail
  refine AnyBut.start (S := fun w' => (w'.cell? ⟨w.heap.size, 0, none⟩ = some (.slice ao m ca) ∧ w'.cell? ⟨w.heap.size, 1, none⟩ = some (.int .i64 (f : Int)) ∧ w'.cell? ⟨w.heap.size, 2, none⟩ = some (.int .i64 (s : Int))) ∧ (w'.cell? ⟨wb.heap.size, 0, none⟩ = some (.int .i64 (f : Int)) ∧ w'.cell? ⟨wb.heap.size, 1, none⟩ = some (.int .i64 (s : Int)))) (k := 10) (by kernel_rfl) ?_
  obtain ⟨wd, hwd⟩ : ∃ w', w' = wk.drew := ⟨_, rfl⟩
  have KD := Lib.hid (Kept.trans HKT.out (Kept.refl (fun _ => False) wk).drew)
  rw [← hwd] at KD ⊢
  have HWD := Lib.hid (HWT.out.same (Kept.refl (fun _ => False) wk).drew (fun x => x))
  rw [← hwd] at HWD
  have HSD := Lib.hid (And.intro (HBX.out _ KD.out).1.c HWD.out.c)
  clear hwd
  refine AnyBut.takeS (i := 0) (v := ?v31) rfl (by kernel_rfl) (Nat.le_of_eq (by kernel_rfl)) (by kernel_rfl) (by kernel_rfl) (fun _ _ _ h => h) (HSD.out) (Or.inl ⟨by kernel_rfl, ?hy31⟩) ?r31
  case hy31 =>
    intro w hSw
    try dsimp only at hSw
    go_simp
    try with_reducible rfl
  try simp only [Act.put, List.getElem_toArray, List.getElem_cons_zero, List.setIfInBounds_toArray, List.set_cons_zero, List.set_cons_succ]
  refine AnyBut.takeS (i := 2) (v := ?v32) rfl (by kernel_rfl) (Nat.le_of_eq (by kernel_rfl)) (by kernel_rfl) (by kernel_rfl) (fun _ _ _ h => h) (HSD.out) (Or.inl ⟨by kernel_rfl, ?hy32⟩) ?r32
  case hy32 =>
    intro w hSw
    try dsimp only at hSw
    go_simp
    try with_reducible rfl
  try simp only [Act.put, List.getElem_toArray, List.getElem_cons_succ, List.getElem_cons_zero, List.setIfInBounds_toArray, List.set_cons_zero, List.set_cons_succ]
  refine AnyBut.takeS (i := 3) (v := ?v33) rfl (by kernel_rfl) (Nat.le_of_eq (by kernel_rfl)) (by kernel_rfl) (by kernel_rfl) (fun _ _ _ h => h) (HSD.out) (Or.inl ⟨by kernel_rfl, ?hy33⟩) ?r33
  case hy33 =>
    intro w hSw
    try dsimp only at hSw
    go_simp
    try with_reducible rfl
  try simp only [Act.put, List.getElem_toArray, List.getElem_cons_succ, List.getElem_cons_zero, List.setIfInBounds_toArray, List.set_cons_zero, List.set_cons_succ]
  refine AnyBut.takeS (i := 4) (v := ?v34) rfl (by kernel_rfl) (Nat.le_of_eq (by kernel_rfl)) (by kernel_rfl) (by kernel_rfl) (fun _ _ _ h => h) (HSD.out) (Or.inl ⟨by kernel_rfl, ?hy34⟩) ?r34
  case hy34 =>
    intro w hSw
    try dsimp only at hSw
    go_simp
    try with_reducible rfl
  try simp only [Act.put, List.getElem_toArray, List.getElem_cons_succ, List.getElem_cons_zero, List.setIfInBounds_toArray, List.set_cons_zero, List.set_cons_succ]
  refine AnyBut.takeS (i := 5) (v := ?v35) rfl (by kernel_rfl) (Nat.le_of_eq (by kernel_rfl)) (by kernel_rfl) (by kernel_rfl) (fun _ _ _ h => h) (HSD.out) (Or.inl ⟨by kernel_rfl, ?hy35⟩) ?r35
  case hy35 =>
    intro w hSw
    try dsimp only at hSw
    go_simp
    try with_reducible rfl
  try simp only [Act.put, List.getElem_toArray, List.getElem_cons_succ, List.getElem_cons_zero, List.setIfInBounds_toArray, List.set_cons_zero, List.set_cons_succ]
  refine AnyBut.takeS (i := 6) (v := ?v36) rfl (by kernel_rfl) (Nat.le_of_eq (by kernel_rfl)) (by kernel_rfl) (by kernel_rfl) (fun _ _ _ h => h) (HSD.out) (Or.inl ⟨by kernel_rfl, ?hy36⟩) ?r36
  case hy36 =>
    intro w hSw
    try dsimp only at hSw
    go_simp
    try with_reducible rfl
  try simp only [Act.put, List.getElem_toArray, List.getElem_cons_succ, List.getElem_cons_zero, List.setIfInBounds_toArray, List.set_cons_zero, List.set_cons_succ]
  refine AnyBut.one (i := 1) (by kernel_rfl) rfl (fun K hK => ?_)
  go_simp
  go_wp2_with fail
  refine (HLAST.out _ KD.out).mono ?_
  rintro e w1 ⟨rfl, k1⟩
  have K1 := Lib.hid (KD.out.trans k1)
  have HW1 := Lib.hid (HWD.out.same k1 (fun x => x))
  clear k1
  have HS1 := Lib.hid (And.intro (HBX.out _ K1.out).1.c HW1.out.c)
  go_wp2
  refine hK.out _ _ (HS1.out) ?_
  clear hK K
  try simp only [Act.put, List.getElem_toArray, List.getElem_cons_succ, List.getElem_cons_zero, List.setIfInBounds_toArray, List.set_cons_zero, List.set_cons_succ]
  refine AnyBut.one (i := 7) (by kernel_rfl) rfl (fun K hK => ?_)
  go_simp
  go_wp2_with fail
  refine (HPLC.out _ K1.out).mono ?_
  rintro e w2 ⟨rfl, k2⟩
  have K2 := Lib.hid (K1.out.trans k2)
  have HW2 := Lib.hid (HW1.out.same k2 (fun x => x))
  clear k2
  have HS2 := Lib.hid (And.intro (HBX.out _ K2.out).1.c HW2.out.c)
  go_wp2
  refine hK.out _ _ (HS2.out) ?_
  clear hK K
  try simp only [Act.put, List.getElem_toArray, List.getElem_cons_succ, List.getElem_cons_zero, List.setIfInBounds_toArray, List.set_cons_zero, List.set_cons_succ]
  refine AnyBut.takeS (i := 8) (v := ?v37) rfl (by kernel_rfl) (Nat.le_of_eq (by kernel_rfl)) (by kernel_rfl) (by kernel_rfl) (fun _ _ _ h => h) (HS2.out) (Or.inl ⟨by kernel_rfl, ?hy37⟩) ?r37
  case hy37 =>
    intro w hSw
    try dsimp only at hSw
    go_simp
    try with_reducible rfl
  try simp only [Act.put, List.getElem_toArray, List.getElem_cons_succ, List.getElem_cons_zero, List.setIfInBounds_toArray, List.set_cons_zero, List.set_cons_succ]
  refine AnyBut.takeS (i := 9) (v := ?v38) rfl (by kernel_rfl) (Nat.le_of_eq (by kernel_rfl)) (by kernel_rfl) (by kernel_rfl) (fun _ _ _ h => h) (HS2.out) (Or.inl ⟨by kernel_rfl, ?hy38⟩) ?r38
  case hy38 =>
    intro w hSw
    try dsimp only at hSw
    go_simp
    try with_reducible rfl
  try simp only [Act.put, List.getElem_toArray, List.getElem_cons_succ, List.getElem_cons_zero, List.setIfInBounds_toArray, List.set_cons_zero, List.set_cons_succ]
  refine AnyBut.done (by kernel_rfl) ?_
  clear z0 z1
  obtain ⟨e0, e1, e2⟩ := (HBX.out _ K2.out).1.c
  go_wp2_with fail
  refine (HPUT.out _ K2.out).mono ?_
  rintro e w8 ⟨vb, v8, rfl, mb, ml⟩
  obtain ⟨ba, bc, be⟩ := mb.slice
  rw [ints_length, HBL.out] at be
  subst be
  obtain ⟨av8, cv8, ev⟩ := ml.slice
  rw [HLX.out] at ev
  subst ev
  have HMB := Lib.hid (mb.down K2.out)
  have HV8 := Lib.hid (ml.down K2.out)
  clear mb ml e0 e1 e2
  obtain ⟨w9, hw9⟩ : ∃ w', w' = w8.alloc (.cells #[.slice av8 (m + 1) cv8, .int .i64 (F2 : Int), .int .i64 (S2 : Int)] 63) := ⟨_, rfl⟩
  have k9 : Kept (fun _ => False) w8 w9 := by rw [hw9]; exact (Kept.refl _ _).alloc _
  have b9 : StBox w9 w8.heap.size (.slice av8 (m + 1) cv8) F2 S2 := by rw [hw9]; exact heap_alloc_new w8 _
  have HN9 := Lib.hid fun w' (k : Kept (fun _ => False) w9 w') => b9.same k (fun x => x)
  have HMB9 := Lib.hid (HMB.out.on k9)
  have HV9 := Lib.hid (HV8.out.on k9)
  have HW9 := Lib.hid hw9
  clear hw9 k9 b9
  go_upto_region 26 with fail
  rw [← HW9.out]
  go_wp2
  go_loopg [12] N (fun g3 s12 wr => ∃ i : Nat, i ≤ N ∧ g3 = N - i ∧ s12 = .int .i64 i ∧ Kept (fun _ => False) w9 wr)
  case atStart => exact ⟨0, Nat.zero_le _, rfl, rfl, Kept.refl _ _⟩
  case round =>
    obtain ⟨i, hil, rfl, rfl, kr⟩ := hrel
    have HKR := Lib.hid kr
    clear kr
    by_cases hd : i < N
    · have hdi : (i : Int) < (N : Int) := by omega
      have i0 : (0 : Int) ≤ (i : Int) := by omega
      have HD := Lib.hid hd
      have i1 : IntKind.i64.wrap ((i : Int) + 1) = (i : Int) + 1 := IntWalk.i64_in _ ⟨by omega, by have := HNS.out; omega⟩
      have inl : (i : Int) < (n : Int) := by have := HNL.out; omega
      obtain ⟨bg, boff, hba, _⟩ := HMB9.out.at_.elem (ints_get (l := PB) (j := i) (by have := HBL.out; omega))
      have ca2 := HCELL.out _ (HMB9.out.kept.trans HKR.out) i (by have := HNL.out; have := HNN.out; omega)
      obtain ⟨bg', boff', hba', cb2⟩ := (HMB9.out.on HKR.out).at_.elem (ints_get (l := PB) (j := i) (by have := HBL.out; omega))
      subst hba
      cases hba'
      have hbe := HEQ.out i HD.out
      rw [hbe] at cb2
      obtain ⟨b, hb⟩ : ∃ b, b = (l.getD i false).toNat := ⟨_, rfl⟩
      rw [← hb] at ca2 cb2
      have bb : ((b : Int) != (b : Int)) = false := by simp
      clear hd hbe hb
      go_wp2
      go_quiet (fail)
      obtain ⟨wq, hwq⟩ : ∃ wq, wq = wr.drewN nq := ⟨_, rfl⟩
      have KQ := Lib.hid (HKR.out.trans ((Kept.refl (fun _ => False) wr).drewN nq))
      rw [← hwq] at KQ ⊢
      clear hwq
      go_wp2
      go_roundg (N - (i + 1))
      case measure => have := HD.out; omega
      case rel => exact ⟨i + 1, HD.out, rfl, by go_num, KQ.out⟩
    · obtain rfl : i = N := by omega
      obtain ⟨u0, u1, u2⟩ := (HN9.out _ HKR.out).c
      obtain ⟨g0, g1, g2, g3, g4, g5⟩ := (HBX.out _ (HV9.out.kept.trans HKR.out)).2.c
      have y0 := (HBX.out _ (HV9.out.kept.trans HKR.out)).2.f 0
      have y1 := (HBX.out _ (HV9.out.kept.trans HKR.out)).2.f 1
      have y2 := (HBX.out _ (HV9.out.kept.trans HKR.out)).2.f 2
      have y3 := (HBX.out _ (HV9.out.kept.trans HKR.out)).2.f 3
      have y4 := (HBX.out _ (HV9.out.kept.trans HKR.out)).2.f 4
      have y5 := (HBX.out _ (HV9.out.kept.trans HKR.out)).2.f 5
      clear hd hil
      go_wp2
      refine g6_end Tryd.results42 rfl rfl ((HBX.out _ (HV9.out.kept.trans HKR.out)).2.set V i (.slice av8 (m + 1) cv8) F2 S2 0) ?_
      exact ⟨_, V, i, F2, S2, rfl, fun _ => ⟨rfl, rfl, rfl, rfl, (HV9.out.on HKR.out).set6 HK0.out (q := w.heap.size + 1) (by omega) HQ.out _ _ _ _ _ _⟩, fun h => absurd rfl h, six_kept (HK0.out.trans (HV9.out.kept.trans HKR.out)) (by have := HQ.out; omega) _ _ _ _ _ _⟩
end Go.Proofs.YtaagjedkojlbpaaDoor
