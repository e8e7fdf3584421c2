/- Layer 8: the walk of HistSides. -/
import Derived.Test.YtbjpcddnjndjlaaKF
namespace Go.Proofs.Ytbjpcddnjndjlaa
open Go.RowKit
attribute [local go_sem ↓] Go.wp_at_zero Go.wp_at_succ

theorem TrimOf.len {o : Int} {l : List Nat} {o' : Int} {l' : List Nat} (h : TrimOf o l o' l') : l'.length ≤ l.length := by
  rcases h with ⟨_, _, rfl⟩ | ⟨a, b, _, _, _, _, _, _, _, rfl⟩
  · simp
  · rw [List.length_take, List.length_drop]; omega
theorem atP_all (o : Int) (l : List Nat) (i : Int) : atP o l l.length i = atN o l i := rfl
theorem atP_hit (o : Int) (l : List Nat) (m : Nat) : atP o l (m + 1) (o + (m : Int)) = l.getD m 0 := by
  unfold atP
  rw [if_pos (by omega), show (o + (m : Int) - o).toNat = m by omega]
theorem atP_miss (o : Int) (l : List Nat) (m : Nat) (i : Int) (h : o + (m : Int) ≠ i) : atP o l (m + 1) i = atP o l m i := by
  unfold atP
  have : (o ≤ i ∧ i < o + ((m + 1 : Nat) : Int)) ↔ (o ≤ i ∧ i < o + (m : Int)) := by omega
  simp only [this]

set_option maxHeartbeats 4000000 in
set_option maxRecDepth 100000 in
theorem histSides_walk (o : Int) (l : List Nat) (sv : Value) (ix : Int) (W : World) (hi : SideIn W o l sv) (hx : -9223372036854775808 ≤ ix ∧ ix ≤ 9223372036854775807) :
    Calls Try.prog 4 #[.agg #[.int .i64 o, sv], .int .i64 ix] W fun e w' => e = .returned (.bool true) ∧ Kept (fun _ => False) W w' := by
  have ha := hi.at_
  have hcp := hi.cap
  have hio := hi.io
  obtain ⟨ao, c, hval, _, _⟩ := ha.val
  rw [uvals_length] at hval
  subst hval
  obtain ⟨w0, hw0⟩ : ∃ w0, w0 = W.alloc (.cells #[.int .i64 o, .slice ao l.length c] 25) := ⟨_, rfl⟩
  have HBX : Hid (SideBox w0 W.heap.size o (.slice ao l.length c)) := Lib.hid (by rw [hw0]; exact heap_alloc_new W _)
  have HK0 : Hid (Kept (fun _ => False) W w0) := Lib.hid (by rw [hw0]; exact (Kept.refl _ _).alloc _)
  have HA := Lib.hid fun w' (k : Kept (fun _ => False) w0 w') => ha.kept (HK0.out.trans k) (fun _ _ x => x)
  have hcase : 300 < l.length ∨ (l.length ≤ 300 ∧ 1099511627776 < o) ∨ (l.length ≤ 300 ∧ ¬ 1099511627776 < o ∧ o < -1099511627776) ∨ (l.length ≤ 300 ∧ ¬ 1099511627776 < o ∧ ¬ o < -1099511627776) := by omega
  clear ha hi
  rcases hcase with h1 | ⟨h1, h2⟩ | ⟨h1, h2, h3⟩ | ⟨h1, h2, h3⟩
  · have q : (300 : Int) < (l.length : Int) := by omega
    clear hcp
    go_enter Try.func4, Try.ntmps4
    go_wp2_with (first
      | (go_at_call 12; rw [← hw0]; clear hw0; refine (awake8 w0).mono ?_; rintro e w1 ⟨rfl, k1⟩; have HK1 := Lib.hid k1; obtain ⟨⟨c0, c1⟩, _⟩ := (HBX.out.same HK1.out (fun x => x)).c; clear k1)
      | fail)
    go_ret
    exact ⟨rfl, HK0.out.trans HK1.out⟩
  · have q : ¬ (300 : Int) < (l.length : Int) := by omega
    clear hcp
    go_enter Try.func4, Try.ntmps4
    go_wp2_with (first
      | (go_at_call 12; rw [← hw0]; clear hw0; refine (awake8 w0).mono ?_; rintro e w1 ⟨rfl, k1⟩; have HK1 := Lib.hid k1; obtain ⟨⟨c0, c1⟩, _⟩ := (HBX.out.same HK1.out (fun x => x)).c; clear k1)
      | fail)
    go_ret
    exact ⟨rfl, HK0.out.trans HK1.out⟩
  · have q : ¬ (300 : Int) < (l.length : Int) := by omega
    clear hcp
    go_enter Try.func4, Try.ntmps4
    go_wp2_with (first
      | (go_at_call 12; rw [← hw0]; clear hw0; refine (awake8 w0).mono ?_; rintro e w1 ⟨rfl, k1⟩; have HK1 := Lib.hid k1; obtain ⟨⟨c0, c1⟩, _⟩ := (HBX.out.same HK1.out (fun x => x)).c; clear k1)
      | fail)
    go_ret
    exact ⟨rfl, HK0.out.trans HK1.out⟩
  · have q : ¬ (300 : Int) < (l.length : Int) := by omega
    have HAT := Lib.hid fun w' (k : Kept (fun _ => False) w0 w') => histAt_any o ix l _ w' (HA.out _ k) hio hx (by omega)
    have HT1 := Lib.hid fun w' (k : Kept (fun _ => False) w0 w') => histTrim_any o l _ w' (HA.out _ k) hcp (by omega) (by omega)
    have HT2 := Lib.hid fun w' (k : Kept (fun _ => False) w0 w') => refTrim_any o l _ w' (HA.out _ k) hcp (by omega) (by omega)
    have HL := Lib.hid (show l.length ≤ 1000000 by omega)
    clear hcp hio
    go_enter Try.func4, Try.ntmps4
    go_wp2_with (first
      | (go_at_call 12; rw [← hw0]; clear hw0; refine (awake8 w0).mono ?_; rintro e w1 ⟨rfl, k1⟩; have HK1 := Lib.hid k1; obtain ⟨⟨c0, c1⟩, _⟩ := (HBX.out.same HK1.out (fun x => x)).c; clear k1)
      | fail)
    go_loopg [5, 6, 23, 24, 25, 26, 27, 28, 29, 30, 31, 32, 33, 34, 35, 36, 37, 38, 39, 40] l.length (fun g s5 s6 s23 s24 s25 s26 s27 s28 s29 s30 s31 s32 s33 s34 s35 s36 s37 s38 s39 s40 wr => ∃ i : Nat, i ≤ l.length ∧ g = l.length - i ∧ s6 = .int .i64 i ∧ s5 = .int .u64 ((atP o l i ix : Nat) : Int) ∧ w1 = wr)
    case atStart => exact ⟨0, Nat.zero_le _, rfl, rfl, by unfold atP; rw [if_neg (by omega)]; rfl, rfl⟩
    case round =>
      obtain ⟨i, hil, rfl, rfl, rfl, rfl⟩ := hrel
      by_cases hd : i < l.length
      · have hdi : (i : Int) < (l.length : Int) := by omega
        have i0 : (0 : Int) ≤ (i : Int) := by omega
        have HD := Lib.hid hd
        have t1 : IntKind.i64.wrap (o + (i : Int)) = o + (i : Int) := IntWalk.i64_in _ ⟨by omega, by omega⟩
        obtain ⟨g, off, rfl, e0⟩ := (HA.out _ HK1.out).elem (uvals_get hd)
        obtain ⟨x, hx'⟩ : ∃ x, x = l.getD i 0 := ⟨_, rfl⟩
        rw [← hx'] at e0
        obtain ⟨Y, hY⟩ : ∃ Y, Y = atP o l i ix := ⟨_, rfl⟩
        rw [← hY]
        by_cases hh : o + (i : Int) = ix
        · have q3 : (o + (i : Int) == ix) = true := beqT hh
          have HN := Lib.hid (show x = atP o l (i + 1) ix by rw [← hh, atP_hit, hx'])
          clear hh hY hx' hd
          go_wp2
          go_roundg (l.length - (i + 1))
          case measure => have := HD.out; omega
          case rel => exact ⟨i + 1, HD.out, rfl, by go_num, by rw [← HN.out], rfl⟩
        · have q3 : (o + (i : Int) == ix) = false := beqF hh
          have HN := Lib.hid (show Y = atP o l (i + 1) ix by rw [atP_miss o l i ix hh, hY])
          clear hh hY hx' hd
          go_wp2
          go_roundg (l.length - (i + 1))
          case measure => have := HD.out; omega
          case rel => exact ⟨i + 1, HD.out, rfl, by go_num, by rw [← HN.out], rfl⟩
      · obtain rfl : i = l.length := by omega
        rw [atP_all]
        obtain ⟨Y, hY⟩ : ∃ Y, Y = atN o l ix := ⟨_, rfl⟩
        rw [← hY] at HAT ⊢
        have q4 : ((Y : Int) == (Y : Int)) = true := beqT rfl
        have HKD := Lib.hid (show Kept (fun _ => False) w0 w1.drew from HK1.out.drew)
        have HSD := Lib.hid (HBX.out.same HKD.out (fun x => x)).c.1
        clear hd hY
        go_wp2
        go_region_held3 (fun w' => w'.cell? ⟨W.heap.size, 0, none⟩ = some (.int .i64 o) ∧ w'.cell? ⟨W.heap.size, 1, none⟩ = some (.slice ao l.length c)) (first | (with_reducible exact HSD.out) | (with_reducible exact HS2.out) | (with_reducible exact HS3.out) | (with_reducible exact HS4.out) | (with_reducible exact HS5.out))
          (first
            | (go_at_call 18; refine (HAT.out w1.drew HKD.out).mono ?_; rintro e w2 ⟨rfl, k2⟩; have HK2 := Lib.hid (HKD.out.trans k2); have HS2 := Lib.hid (HBX.out.same HK2.out (fun x => x)).c.1; clear k2)
            | (go_at_call 20; refine (HT1.out w2 HK2.out).mono ?_; rintro e w3 ⟨o3, l3, v3, ht3, rfl, hm3⟩; obtain ⟨a3, q3', rfl⟩ := hm3.slice; have HM3 := Lib.hid hm3; have HT3 := Lib.hid ht3; have HK3 := Lib.hid (HK2.out.trans hm3.kept); have HS3 := Lib.hid (HBX.out.same HK3.out (fun x => x)).c.1; clear hm3 ht3)
            | (go_at_call 21; refine (HT2.out w3 HK3.out).mono ?_; rintro e w4 ⟨o4, l4, v4, ht4, rfl, hm4⟩; obtain ⟨a4, q4', rfl⟩ := hm4.slice; have HM4 := Lib.hid hm4; have HU := Lib.hid (TrimOf.uniq HT3.out ht4); have HK4 := Lib.hid (HK3.out.trans hm4.kept); have HS4 := Lib.hid (HBX.out.same HK4.out (fun x => x)).c.1; clear hm4 ht4)
            | (go_at_call 19; refine (refSameSide_any o3 o4 l3 l4 _ _ w4 (HM3.out.on HM4.out.kept).at_ HM4.out.at_ (Nat.le_trans HT3.out.len HL.out)).mono ?_; rintro e w5 ⟨rfl, k5⟩; rw [decide_eq_true HU.out]; have HK5 := Lib.hid (HK4.out.trans k5); have HS5 := Lib.hid (HBX.out.same HK5.out (fun x => x)).c.1; clear k5)
            | fail)
        go_wp2
        go_ret
        exact ⟨rfl, HK0.out.trans HK5.out⟩
end Go.Proofs.Ytbjpcddnjndjlaa
