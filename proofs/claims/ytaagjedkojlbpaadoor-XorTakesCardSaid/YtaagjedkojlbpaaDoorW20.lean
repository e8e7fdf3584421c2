/- package limnographref07: placed. -/
import Derived.Test.YtaagjedkojlbpaaDoorW16
namespace Go.Proofs.YtaagjedkojlbpaaDoor
open Go.RowKit
attribute [local go_sem ↓] Go.wp_at_zero Go.wp_at_succ

/-- Bits at a window's places, up to the i-th. -/
def plB (l : List Bool) (f s i : Nat) : List Bool := (List.range i).map fun j => if f ≤ j ∧ j < f + s then l.getD (j - f) false else false
theorem plB_length (l : List Bool) (f s i : Nat) : (plB l f s i).length = i := by simp [plB]
theorem plB_succ (l : List Bool) (f s i : Nat) : plB l f s (i + 1) = plB l f s i ++ [if f ≤ i ∧ i < f + s then l.getD (i - f) false else false] := by
  unfold plB; rw [List.range_succ, List.map_append]; rfl
theorem plB_all (l : List Bool) (f s : Nat) (hl : l.length = s) (h : f + s ≤ 64) : plB l f s 64 = List.replicate f false ++ l ++ List.replicate (64 - f - s) false := by
  apply List.ext_getElem?
  intro j
  by_cases hj : j < 64
  · have e : (plB l f s 64)[j]? = some (if f ≤ j ∧ j < f + s then l.getD (j - f) false else false) := by
      unfold plB; rw [List.getElem?_map, List.getElem?_range hj]; rfl
    rw [e, List.append_assoc]
    by_cases h1 : j < f
    · rw [if_neg (by omega), List.getElem?_append_left (by simpa using h1), List.getElem?_replicate, if_pos h1]
    · rw [List.getElem?_append_right (by simpa using h1), List.length_replicate]
      by_cases h2 : j < f + s
      · rw [if_pos ⟨by omega, h2⟩, List.getElem?_append_left (by omega), List.getElem?_eq_getElem (by omega), List.getD_eq_getElem?_getD, List.getElem?_eq_getElem (by omega)]
        rfl
      · rw [if_neg (by omega), List.getElem?_append_right (by omega), List.getElem?_replicate, if_pos (by omega)]
  · rw [List.getElem?_eq_none (by rw [plB_length]; omega), List.getElem?_eq_none (by simp; omega)]
theorem numB_falses (n : Nat) : numB (List.replicate n false) = 0 := by
  induction n with
  | zero => rfl
  | succ n ih =>
    rw [List.replicate_succ', numB_append, ih]; rfl
theorem plB_num (l : List Bool) (f s : Nat) (hl : l.length = s) (h : f + s ≤ 64) : numB (plB l f s 64) = outX f s (numB l) := by
  rw [plB_all l f s hl h, numB_append, numB_append, numB_falses, numB_falses]
  unfold outX
  rw [List.length_replicate]
  simp

set_option maxHeartbeats 4000000 in
set_option maxRecDepth 100000 in
theorem rplaced_any (ao : Option Addr) (ca : Nat) (l : List Bool) (f s : Nat) (w : World) (hv : SlAt w (.slice ao s ca) (ints l)) (hl : l.length = s) (hs : 1 ≤ s) (h : f + s ≤ 64) :
    Calls Tryd.prog 67 #[.slice ao s ca, winV f s] w fun e w' => e = .returned (.int .u64 ((outX f s (numB l) : Nat) : Int)) ∧ Kept (fun _ => False) w w' := by
  unfold winV
  have hnum := plB_num l f s hl h
  have hone : ∀ i, i < s → (ints l)[i]? = some (.int .i64 (((l.getD i false).toNat : Nat) : Int)) := fun i hi => ints_get (by omega)
  obtain ⟨g, off, rfl, _⟩ := hv.elem (hone 0 (by omega))
  have HCELL := Lib.hid fun w' (k : Kept (fun _ => False) w w') i (hi : i < s) => show w'.cell? ⟨g, off + i, none⟩ = some (.int .i64 (((l.getD i false).toNat : Nat) : Int)) from by
    obtain ⟨g', off', e, c⟩ := (hv.kept k (fun _ _ x => x)).elem (hone i hi)
    cases e; exact c
  have k0 := (Kept.refl (fun _ => False) w).alloc (.cells #[.int .i64 (f : Int), .int .i64 (s : Int)] 61)
  have b0 := WinR.new w (f : Int) (s : Int)
  obtain ⟨w0, hw0⟩ : ∃ w', w' = w.alloc (.cells #[.int .i64 (f : Int), .int .i64 (s : Int)] 61) := ⟨_, rfl⟩
  rw [← hw0] at k0 b0
  have HW0 := Lib.hid hw0
  have HK0 := Lib.hid k0
  have HWB := Lib.hid fun w' (k : Kept (fun _ => False) w0 w') => WinR.same (show WinR w0 w.heap.size f s from b0) k (fun x => x)
  have afs : IntKind.i64.wrap ((f : Int) + (s : Int)) = ((f + s : Nat) : Int) := by rw [IntWalk.i64_in _ ⟨by omega, by omega⟩]; omega
  obtain ⟨E, hE⟩ : ∃ E, E = f + s := ⟨_, rfl⟩
  rw [← hE] at afs
  have HE := Lib.hid (And.intro hE h)
  have HST := Lib.hid (Mine.nil w0 3)
  have HNUM := Lib.hid fun w' v (h : SlAt w' v (ints (plB l f s 64))) => refNumber_any v _ w' h (by rw [plB_length]; omega)
  rw [hnum] at HNUM
  have HPS := Lib.hid (plB_succ l f s)
  have HPL := Lib.hid (plB_length l f s)
  obtain ⟨X, hX⟩ : ∃ X, X = outX f s (numB l) := ⟨_, rfl⟩
  rw [← hX] at HNUM ⊢
  clear hv hone k0 b0 hw0 hE hnum hX hl hs h
  go_enter Tryd.func67, Tryd.ntmps67
  go_wp2
  rw [← HW0.out]
  go_loopg [5, 6, 7] 64 (fun g s5 s6 s7 wr => ∃ i : Nat, i ≤ 64 ∧ g = 64 - i ∧ s6 = .int .i64 i ∧ Mine w0 wr 3 s5 (ints (plB l f s i)))
  case atStart => exact ⟨0, Nat.zero_le _, rfl, rfl, HST.out⟩
  case round =>
    obtain ⟨i, hil, rfl, rfl, hm⟩ := hrel
    obtain ⟨a5, c5, e5⟩ := hm.slice
    rw [ints_length, HPL.out] at e5
    subst e5
    have HM := Lib.hid hm
    obtain ⟨z0, z1⟩ := (HWB.out _ hm.kept).c
    have hq := HE.out
    clear hm
    by_cases hd : i < 64
    · have hdi : (i : Int) < 64 := by omega
      have hdib : decide (i < 64) = true := decide_eq_true hd
      have HD := Lib.hid hd
      clear hd
      by_cases h1 : f ≤ i ∧ i < E
      · have x1 : (f : Int) ≤ (i : Int) := by omega
        have x1b : decide (f ≤ i) = true := decide_eq_true h1.1
        have x2 : (i : Int) < (E : Int) := by omega
        have x2b : decide (i < E) = true := decide_eq_true h1.2
        obtain ⟨d, hde⟩ : ∃ d, i = f + d := ⟨i - f, by omega⟩
        have t1 : IntKind.i64.wrap ((i : Int) - (f : Int)) = (d : Int) := by rw [IntWalk.i64_in _ ⟨by omega, by omega⟩]; omega
        have d0 : (0 : Int) ≤ (d : Int) := by omega
        have d1 : (d : Int) < (s : Int) := by omega
        have cb := HCELL.out _ (HK0.out.trans HM.out.kept) d (by omega)
        have hbit : (if f ≤ i ∧ i < f + s then l.getD (i - f) false else false) = l.getD d false := by rw [if_pos (by omega), show i - f = d by omega]
        obtain ⟨b, hb⟩ : ∃ b, b = l.getD d false := ⟨_, rfl⟩
        rw [← hb] at cb hbit
        have HBIT := Lib.hid hbit
        clear h1 hde hb hbit hq hil
        go_wp2_with (at_builtin; refine wpList_mineI rfl (.tmp 32) (.tmp 34) rfl w0 _ _ rfl (HM.out.alloc _) _ _ rfl (src_oneI wr (.int .i64 ((b.toNat : Nat) : Int)) rfl) (by have := HD.out; simp [HPL.out]; omega) ?_; intro v6 w6 hm6; obtain ⟨a6, c6, e6⟩ := hm6.slice; obtain ⟨n6, hn6⟩ : ∃ n, v6 = Value.slice a6 n c6 := ⟨_, e6⟩; clear e6; subst hn6; have HM6 := Lib.hid hm6; clear hm6)
        go_roundg (64 - (i + 1))
        case measure => have := HD.out; omega
        case rel => exact ⟨i + 1, HD.out, rfl, by go_num, by rw [HPS.out, HBIT.out, ints_append]; exact HM6.out⟩
      · have hbit : (if f ≤ i ∧ i < f + s then l.getD (i - f) false else false) = false := by rw [if_neg (by omega)]
        have HBIT := Lib.hid hbit
        by_cases h2 : f ≤ i
        · have x1 : (f : Int) ≤ (i : Int) := by omega
          have x1b : decide (f ≤ i) = true := decide_eq_true h2
          have x2 : ¬ (i : Int) < (E : Int) := by omega
          have x2b : decide (i < E) = false := decide_eq_false (by omega)
          clear h1 h2 hbit hq hil
          go_wp2_with (at_builtin; refine wpList_mineI rfl (.tmp 32) (.tmp 34) rfl w0 _ _ rfl (HM.out.alloc _) _ _ rfl (src_oneI wr (.int .i64 0) rfl) (by have := HD.out; simp [HPL.out]; omega) ?_; intro v6 w6 hm6; obtain ⟨a6, c6, e6⟩ := hm6.slice; obtain ⟨n6, hn6⟩ : ∃ n, v6 = Value.slice a6 n c6 := ⟨_, e6⟩; clear e6; subst hn6; have HM6 := Lib.hid hm6; clear hm6)
          go_roundg (64 - (i + 1))
          case measure => have := HD.out; omega
          case rel => exact ⟨i + 1, HD.out, rfl, by go_num, by rw [HPS.out, HBIT.out, ints_append]; exact HM6.out⟩
        · have x1 : ¬ (f : Int) ≤ (i : Int) := by omega
          have x1b : decide (f ≤ i) = false := decide_eq_false h2
          clear h1 h2 hbit hq hil
          go_wp2_with (at_builtin; refine wpList_mineI rfl (.tmp 32) (.tmp 34) rfl w0 _ _ rfl (HM.out.alloc _) _ _ rfl (src_oneI wr (.int .i64 0) rfl) (by have := HD.out; simp [HPL.out]; omega) ?_; intro v6 w6 hm6; obtain ⟨a6, c6, e6⟩ := hm6.slice; obtain ⟨n6, hn6⟩ : ∃ n, v6 = Value.slice a6 n c6 := ⟨_, e6⟩; clear e6; subst hn6; have HM6 := Lib.hid hm6; clear hm6)
          go_roundg (64 - (i + 1))
          case measure => have := HD.out; omega
          case rel => exact ⟨i + 1, HD.out, rfl, by go_num, by rw [HPS.out, HBIT.out, ints_append]; exact HM6.out⟩
    · obtain rfl : i = 64 := by omega
      clear hd hq hil
      go_wp2_with fail
      refine (HNUM.out _ _ HM.out.at_).mono ?_
      rintro e w' ⟨rfl, rfl⟩
      go_wp2
      go_ret
      exact ⟨rfl, HK0.out.trans HM.out.kept⟩
end Go.Proofs.YtaagjedkojlbpaaDoor
