/- Layer 10: the walk of 'HistbitsSame' (written by tools/gen_XZ10.py). -/
import Derived.Test.YtjpnfadmblmjbaaDoorZ9
import Derived.Test.YtjpnfadmblmjbaaDoorG3
namespace Go.Proofs.YtjpnfadmblmjbaaDoor
open Go.RowKit
attribute [local go_sem ↓] Go.wp_at_zero Go.wp_at_succ

/-- The bits of a histogram that was put k times. -/
def sameB (h : HistV) : Nat → List Bool
  | 0 => []
  | k + 1 => sameB h k ++ nextH k (if k = 0 then zeroH else h) h
theorem sameB_one (h : HistV) : sameB h 1 = nextH 0 zeroH h := rfl
theorem sameB_len (h : HistV) (k : Nat) : (sameB h (k + 1)).length = (sameB h 1).length + k * (1 + 2 * (1 + h.pl.length + h.nl.length)) := by
  induction k with
  | zero => simp
  | succ k ih =>
    show (sameB h (k + 1) ++ nextH (k + 1) (if k + 1 = 0 then zeroH else h) h).length = _
    rw [List.length_append, ih, if_neg (by omega), nextH_same _ _ (by omega)]
    obtain ⟨M, hM⟩ : ∃ M, M = 1 + 2 * (1 + h.pl.length + h.nl.length) := ⟨_, rfl⟩
    rw [← hM, Nat.succ_mul]
    omega
theorem sameB_len1 (h : HistV) (hp : h.pl.length ≤ 170) (hn : h.nl.length ≤ 170) : (sameB h 1).length ≤ 30000 := by
  rw [sameB_one]
  have := nextH_len 0 zeroH h
  rw [cntL_length] at this
  omega
theorem zeroH_light : zeroH.pl.length ≤ 160 ∧ zeroH.nl.length ≤ 160 := ⟨Nat.zero_le _, Nat.zero_le _⟩

theorem sameB_le (h : HistV) (hp : h.pl.length ≤ 170) (hn : h.nl.length ≤ 170) (k : Nat) (hk : k ≤ 100) : (sameB h k).length ≤ 200000 := by
  cases k with
  | zero => exact Nat.zero_le _
  | succ k =>
    rw [sameB_len]
    have h1 := sameB_len1 h hp hn
    have h2 := Nat.mul_le_mul (show k ≤ 100 by omega) (show 1 + 2 * (1 + h.pl.length + h.nl.length) ≤ 700 by omega)
    omega
theorem last_light (h : HistV) (k : Nat) (he : k = 0 ∨ h.err = 0) : (if k = 0 then zeroH else h).pl.length ≤ 160 ∧ (if k = 0 then zeroH else h).nl.length ≤ 160 := by
  by_cases h0 : k = 0
  · rw [if_pos h0]; exact zeroH_light
  · rw [if_neg h0]
    have he2 := he.resolve_left h0
    exact ⟨(sideE_zero (err_light he2).2.1).1, (sideE_zero (err_light he2).2.2.1).1⟩

set_option maxHeartbeats 8000000 in
set_option maxRecDepth 100000 in
theorem same10_walk0 (h : HistV) (pv nv : Value) (n : Int) (W : World) (ha : HistAt W h pv nv) (hok : h.ok) (hn : -9223372036854775808 ≤ n ∧ n ≤ 9223372036854775807) (HT : ClassTab W) (hB0 : 0 < W.heap.size) :
    Calls Tryd.prog 9 #[histV h pv nv, .int .i64 n] W fun e w' => e = .returned (.bool true) ∧ Kept (fun _ => False) W w' := by
  obtain ⟨⟨ao, c, rfl⟩, bo, d, rfl⟩ := ha.sl
  obtain ⟨SO, hSO⟩ : ∃ b, b = someH [⟨h, ao, c, bo, d⟩] := ⟨_, rfl⟩
  have hso : SO = true → h.pl.length ≤ 170 ∧ h.nl.length ≤ 170 := fun e => (someH_true (hSO.symm.trans e)).2 ⟨h, ao, c, bo, d⟩ (by simp)
  have HSM := Lib.hid fun w' q' k (b : HsAt w' (some q') [⟨h, ao, c, bo, d⟩]) => (show Calls Tryd.prog 35 #[.slice (some q') 1 k] w' _ from some10_any (some q') k [⟨h, ao, c, bo, d⟩] w' b (by simp))
  rw [← hSO] at HSM
  have HHA := Lib.hid ha
  -- a put at the worlds behind W2, the base
  have HPU := Lib.hid fun W2 w' p r v gp gn k (K2 : Kept (fun _ => False) W W2) (hs : SO = true) (hk : k ≤ 100) (X : HB W2 w' p r v (sameB h k) k (if k = 0 then zeroH else h) gp gn) (he : k = 0 ∨ h.err = 0) =>
    hput_any W2 w' p r k v gp gn (.slice ao h.pl.length c) (.slice bo h.nl.length d) (sameB h k) (if k = 0 then zeroH else h) h X (ha.on (K2.trans X.mp.kept))
      (Apart.older ha (fun j hj => Nat.le_trans K2.size (X.base j hj))) hok (by have := K2.size; omega) (by omega) (by have := sameB_le h (hso hs).1 (hso hs).2 k hk; omega) (by have := hso hs; omega) (by have := hso hs; omega) (last_light h k he).1 (last_light h k he).2 (HT.kept K2)
  have HSL := Lib.hid (sameB_len h)
  have HS1 := Lib.hid fun (e : SO = true) => sameB_len1 h (hso e).1 (hso e).2
  obtain ⟨E, hE⟩ : ∃ E, E = h.err := ⟨_, rfl⟩
  rw [← hE] at HPU
  obtain ⟨SB, hSB⟩ : ∃ f, f = sameB h := ⟨_, rfl⟩
  rw [← hSB] at HPU HSL HS1
  have HNX := Lib.hid (show ∀ k, SB (k + 1) = SB k ++ nextH k (if k = 0 then zeroH else h) h by intro k; rw [hSB]; rfl)
  have HS0 := Lib.hid (show SB 0 = [] by rw [hSB]; rfl)
  clear hSB hE
  obtain ⟨sc, ze, po, pl, no, nl⟩ := h
  unfold histV at HPU ⊢
  simp only at HPU HSM HSL hso HNX ⊢
  obtain ⟨w0, hw0⟩ : ∃ w0, w0 = W.alloc (.cells #[.int .i64 sc, .int .u64 (ze : Int), .int .i64 po, .slice ao pl.length c, .int .i64 no, .slice bo nl.length d] 62) := ⟨_, rfl⟩
  have HQ0 := Lib.hid (show HistBox w0 W.heap.size ⟨sc, ze, po, pl, no, nl⟩ (.slice ao pl.length c) (.slice bo nl.length d) by rw [hw0]; exact heap_alloc_new W _)
  have HK0 := Lib.hid (show Kept (fun _ => False) W w0 by rw [hw0]; exact (Kept.refl _ _).alloc _)
  have HAW := Lib.hid (awake10_any w0 (HT.kept HK0.out) (by have := HK0.out.size; omega))
  obtain ⟨q, hq⟩ : ∃ q, q = W.heap.size := ⟨_, rfl⟩
  rw [← hq] at HQ0
  have HQ := Lib.hid hq
  have HW0 := Lib.hid hw0
  have HSO := Lib.hid hso
  clear ha hok HT hB0 hw0 hq hSO hso
  have hcase : SO = false ∨ SO = true := by cases SO <;> simp
  rcases hcase with rfl | rfl
  · go_enter Tryd.func9, Tryd.ntmps9
    go_upto_region 1 with fail
    rw [← HW0.out, ← HQ.out]
    go_wp2_with fail
    refine HAW.out.mono ?_
    rintro e w1 ⟨rfl, k1⟩
    have HK1 := Lib.hid (HK0.out.trans k1)
    have HQ1 := Lib.hid (HQ0.out.same k1 (fun x => x))
    clear k1
    obtain ⟨x0, x1, x2, x3, x4, x5⟩ := HistBox.c (h := ⟨sc, ze, po, pl, no, nl⟩) HQ1.out
    simp only at x0 x1 x2 x3 x4 x5
    obtain ⟨w2, hw2⟩ : ∃ w', w' = w1.alloc (.cells #[.int .i64 sc, .int .u64 (ze : Int), .int .i64 po, .slice ao pl.length c, .int .i64 no, .slice bo nl.length d] 62) := ⟨_, rfl⟩
    have HSA := Lib.hid (show HsAt w2 (some ⟨w1.heap.size, 0, none⟩) [⟨⟨sc, ze, po, pl, no, nl⟩, ao, c, bo, d⟩] by rw [hw2]; exact hsAt_one (heap_alloc_new w1 _))
    have k2 : Kept (fun _ => False) w1 w2 := by rw [hw2]; exact (Kept.refl _ _).alloc _
    have HK2 := Lib.hid (HK1.out.trans k2)
    have HQ2 := Lib.hid (HQ1.out.same k2 (fun x => x))
    have HW2 := Lib.hid hw2
    clear hw2 k2
    go_wp2_with fail
    rw [← HW2.out]
    refine (HSM.out _ _ _ HSA.out).mono ?_
    rintro e w' ⟨rfl, rfl⟩
    clear x0 x1 x2 x3 x4 x5
    go_wp2
    go_ret
    exact ⟨rfl, HK2.out⟩
  have hcase : n < 1 ∨ (¬ n < 1 ∧ 40 < n) ∨ (¬ n < 1 ∧ ¬ 40 < n) := by omega
  rcases hcase with h1 | ⟨h1, h2⟩ | ⟨h1, h2⟩
  · go_enter Tryd.func9, Tryd.ntmps9
    go_upto_region 1 with fail
    rw [← HW0.out, ← HQ.out]
    go_wp2_with fail
    refine HAW.out.mono ?_
    rintro e w1 ⟨rfl, k1⟩
    have HK1 := Lib.hid (HK0.out.trans k1)
    have HQ1 := Lib.hid (HQ0.out.same k1 (fun x => x))
    clear k1
    obtain ⟨x0, x1, x2, x3, x4, x5⟩ := HistBox.c (h := ⟨sc, ze, po, pl, no, nl⟩) HQ1.out
    simp only at x0 x1 x2 x3 x4 x5
    obtain ⟨w2, hw2⟩ : ∃ w', w' = w1.alloc (.cells #[.int .i64 sc, .int .u64 (ze : Int), .int .i64 po, .slice ao pl.length c, .int .i64 no, .slice bo nl.length d] 62) := ⟨_, rfl⟩
    have HSA := Lib.hid (show HsAt w2 (some ⟨w1.heap.size, 0, none⟩) [⟨⟨sc, ze, po, pl, no, nl⟩, ao, c, bo, d⟩] by rw [hw2]; exact hsAt_one (heap_alloc_new w1 _))
    have k2 : Kept (fun _ => False) w1 w2 := by rw [hw2]; exact (Kept.refl _ _).alloc _
    have HK2 := Lib.hid (HK1.out.trans k2)
    have HQ2 := Lib.hid (HQ1.out.same k2 (fun x => x))
    have HW2 := Lib.hid hw2
    clear hw2 k2
    go_wp2_with fail
    rw [← HW2.out]
    refine (HSM.out _ _ _ HSA.out).mono ?_
    rintro e w' ⟨rfl, rfl⟩
    clear x0 x1 x2 x3 x4 x5
    go_wp2
    go_ret
    exact ⟨rfl, HK2.out⟩
  · go_enter Tryd.func9, Tryd.ntmps9
    go_upto_region 1 with fail
    rw [← HW0.out, ← HQ.out]
    go_wp2_with fail
    refine HAW.out.mono ?_
    rintro e w1 ⟨rfl, k1⟩
    have HK1 := Lib.hid (HK0.out.trans k1)
    have HQ1 := Lib.hid (HQ0.out.same k1 (fun x => x))
    clear k1
    obtain ⟨x0, x1, x2, x3, x4, x5⟩ := HistBox.c (h := ⟨sc, ze, po, pl, no, nl⟩) HQ1.out
    simp only at x0 x1 x2 x3 x4 x5
    obtain ⟨w2, hw2⟩ : ∃ w', w' = w1.alloc (.cells #[.int .i64 sc, .int .u64 (ze : Int), .int .i64 po, .slice ao pl.length c, .int .i64 no, .slice bo nl.length d] 62) := ⟨_, rfl⟩
    have HSA := Lib.hid (show HsAt w2 (some ⟨w1.heap.size, 0, none⟩) [⟨⟨sc, ze, po, pl, no, nl⟩, ao, c, bo, d⟩] by rw [hw2]; exact hsAt_one (heap_alloc_new w1 _))
    have k2 : Kept (fun _ => False) w1 w2 := by rw [hw2]; exact (Kept.refl _ _).alloc _
    have HK2 := Lib.hid (HK1.out.trans k2)
    have HQ2 := Lib.hid (HQ1.out.same k2 (fun x => x))
    have HW2 := Lib.hid hw2
    clear hw2 k2
    go_wp2_with fail
    rw [← HW2.out]
    refine (HSM.out _ _ _ HSA.out).mono ?_
    rintro e w' ⟨rfl, rfl⟩
    clear x0 x1 x2 x3 x4 x5
    go_wp2
    go_ret
    exact ⟨rfl, HK2.out⟩
  · obtain ⟨m, rfl⟩ : ∃ m : Nat, n = m := ⟨n.toNat, by omega⟩
    have HM := Lib.hid (show 1 ≤ m ∧ m ≤ 40 by omega)
    clear hn
    go_enter Tryd.func9, Tryd.ntmps9
    go_upto_region 1 with fail
    rw [← HW0.out, ← HQ.out]
    go_wp2_with fail
    refine HAW.out.mono ?_
    rintro e w1 ⟨rfl, k1⟩
    have HK1 := Lib.hid (HK0.out.trans k1)
    have HQ1 := Lib.hid (HQ0.out.same k1 (fun x => x))
    clear k1
    obtain ⟨x0, x1, x2, x3, x4, x5⟩ := HistBox.c (h := ⟨sc, ze, po, pl, no, nl⟩) HQ1.out
    simp only at x0 x1 x2 x3 x4 x5
    obtain ⟨w2, hw2⟩ : ∃ w', w' = w1.alloc (.cells #[.int .i64 sc, .int .u64 (ze : Int), .int .i64 po, .slice ao pl.length c, .int .i64 no, .slice bo nl.length d] 62) := ⟨_, rfl⟩
    have HSA := Lib.hid (show HsAt w2 (some ⟨w1.heap.size, 0, none⟩) [⟨⟨sc, ze, po, pl, no, nl⟩, ao, c, bo, d⟩] by rw [hw2]; exact hsAt_one (heap_alloc_new w1 _))
    have k2 : Kept (fun _ => False) w1 w2 := by rw [hw2]; exact (Kept.refl _ _).alloc _
    have HK2 := Lib.hid (HK1.out.trans k2)
    have HQ2 := Lib.hid (HQ1.out.same k2 (fun x => x))
    have HW2 := Lib.hid hw2
    clear hw2 k2
    go_wp2_with fail
    rw [← HW2.out]
    refine (HSM.out _ _ _ HSA.out).mono ?_
    rintro e w' ⟨rfl, rfl⟩
    clear x0 x1 x2 x3 x4 x5
    go_wp2_with fail
    refine (bnew_any w2).mono ?_
    rintro e w3 ⟨rfl, hw3⟩
    have H0 := bnew_at w2.heap.size w2 (Nat.le_refl _)
    rw [← hw3] at H0
    have k3 : Kept (fun _ => False) w2 w3 := by rw [hw3]; exact (Kept.refl _ _).alloc _
    clear hw3
    go_wp2_with fail
    refine (hnewRow_any w3).mono ?_
    rintro e w4 ⟨rfl, hr, k4⟩
    have hx4 : HB w2 w4 w2.heap.size w3.heap.size (.slice none 0 0) (SB 0) 0 (if 0 = 0 then zeroH else ⟨sc, ze, po, pl, no, nl⟩) (.slice none 0 0) (.slice none 0 0) := ⟨by rw [HS0.out]; exact H0.keptF k4, hr, Mine.nil' _ (k3.trans k4), Mine.nil' _ (k3.trans k4), k3.size⟩
    obtain ⟨r, hr1⟩ : ∃ r, r = w3.heap.size := ⟨_, rfl⟩
    obtain ⟨p, hp1⟩ : ∃ p, p = w2.heap.size := ⟨_, rfl⟩
    rw [← hr1] at hx4 ⊢
    have hx5 : HB w2 w4 p r (.slice none 0 0) (SB 0) 0 (if 0 = 0 then zeroH else ⟨sc, ze, po, pl, no, nl⟩) (.slice none 0 0) (.slice none 0 0) := by rw [hp1]; exact hx4
    rw [← hp1]
    have HX4 := Lib.hid hx5
    have HQ4 := Lib.hid (HQ2.out.same (k3.trans k4) (fun x => x))
    clear hr k3 k4 H0 hr1 hp1 hx4 hx5
    obtain ⟨x0, x1, x2, x3, x4, x5⟩ := HistBox.c (h := ⟨sc, ze, po, pl, no, nl⟩) HQ4.out
    simp only at x0 x1 x2 x3 x4 x5
    go_wp2_with fail
    refine (HPU.out w2 w4 p r _ _ _ 0 HK2.out (by trivial) (by omega) HX4.out (.inl rfl)).mono ?_
    rintro e w5 ⟨rfl, hq⟩
    clear x0 x1 x2 x3 x4 x5
    by_cases he : E = 0
    · obtain ⟨v5, p5, n5, h5, _, _⟩ : PutTo w2 w4 w5 p r (.slice none 0 0) (SB 1) 1 ⟨sc, ze, po, pl, no, nl⟩ := by
        rcases hq with ⟨h, _⟩ | ⟨_, h⟩
        · exact absurd he h
        · have := HNX.out 0
          rw [this]; exact h
      have HE := Lib.hid he
      subst he
      have HX5 := Lib.hid h5
      have hlen := bwlen_any _ _ _ _ _ h5.bw
      obtain ⟨F, hF⟩ : ∃ F, F = (SB 1).length := ⟨_, rfl⟩
      rw [← hF] at hlen
      have HL1 := Lib.hid hlen
      have HF := Lib.hid hF
      clear hq h5 hlen hF h1 h2
      go_wp2_with fail
      refine HL1.out.mono ?_
      rintro e w' ⟨rfl, rfl⟩
      go_wp2
      go_loopg [8] (m - 1) (fun g s8 wr => ∃ k : Nat, k ≤ m ∧ g = m - k ∧ s8 = .int .i64 k ∧ 1 ≤ k ∧ ∃ v a b, HB w2 wr p r v (SB k) k ⟨sc, ze, po, pl, no, nl⟩ a b)
      case atStart => exact ⟨1, HM.out.1, rfl, rfl, by omega, v5, p5, n5, HX5.out⟩
      case round =>
        obtain ⟨k, hkm, rfl, rfl, hk1, v, a, b, hx⟩ := hrel
        have HXr := Lib.hid hx
        have HQr := Lib.hid (HQ2.out.same hx.mp.kept (fun x => x))
        clear hx
        obtain ⟨x0, x1, x2, x3, x4, x5⟩ := HistBox.c (h := ⟨sc, ze, po, pl, no, nl⟩) HQr.out
        simp only at x0 x1 x2 x3 x4 x5
        by_cases hd : k < m
        · have hdi : (k : Int) < (m : Int) := by omega
          have HD := Lib.hid (And.intro hd hk1)
          have wi : IntKind.i64.wrap ((k : Int) + 1) = ((k + 1 : Nat) : Int) := by rw [IntWalk.i64_in _ ⟨by omega, by have := HM.out; omega⟩]; omega
          have HXk : Hid (HB w2 wr p r v (SB k) k (if k = 0 then zeroH else ⟨sc, ze, po, pl, no, nl⟩) a b) := Lib.hid (by rw [if_neg (by omega)]; exact HXr.out)
          have HN2 := Lib.hid (HNX.out k)
          rw [if_neg (by omega)] at HN2
          have HKM := Lib.hid (show k ≤ 100 by have := HM.out; omega)
          clear hd hk1 hkm
          go_wp2_with fail
          refine (HPU.out w2 wr p r _ _ _ k HK2.out (by trivial) HKM.out HXk.out (.inr HE.out)).mono ?_
          rintro e w6 ⟨rfl, hq⟩
          obtain ⟨v6, p6, n6, h6, _, _⟩ : PutTo w2 wr w6 p r v (SB (k + 1)) (k + 1) ⟨sc, ze, po, pl, no, nl⟩ := by
            rcases hq with ⟨h, _⟩ | ⟨_, h⟩
            · exact absurd rfl h
            · have hk0 := HD.out.2
              rw [HN2.out]; rw [if_neg (by omega)] at h; exact h
          have HX6 := Lib.hid h6
          clear hq h6 x0 x1 x2 x3 x4 x5
          go_wp2
          go_roundg (m - (k + 1))
          case measure => have := HD.out; omega
          case rel => exact ⟨k + 1, HD.out.1, rfl, rfl, by omega, v6, p6, n6, HX6.out⟩
        · obtain rfl : k = m := by omega
          have HSX := HSL.out (k - 1)
          have h2 := HS1.out (by trivial)
          have hso := HSO.out (by trivial)
          have HMM := HM.out
          rw [Nat.sub_add_cancel hk1, ← HF.out] at HSX
          rw [← HF.out] at h2
          obtain ⟨pn, hpn⟩ : ∃ x, x = pl.length := ⟨_, rfl⟩
          obtain ⟨nn, hnn⟩ : ∃ x, x = nl.length := ⟨_, rfl⟩
          rw [← hpn] at x3 HSX hso
          rw [← hnn] at x5 HSX hso
          obtain ⟨LM, hLM⟩ : ∃ x, x = (SB k).length := ⟨_, rfl⟩
          have hlen := bwlen_any _ _ _ _ _ HXr.out.bw
          rw [← hLM] at HSX hlen
          have HLK := Lib.hid hlen
          obtain ⟨A, hA⟩ : ∃ x, x = k - 1 := ⟨_, rfl⟩
          obtain ⟨B1, hB1⟩ : ∃ x, x = 1 + pn := ⟨_, rfl⟩
          obtain ⟨B2, hB2⟩ : ∃ x, x = B1 + nn := ⟨_, rfl⟩
          obtain ⟨B3, hB3⟩ : ∃ x, x = 2 * B2 := ⟨_, rfl⟩
          obtain ⟨M, hM⟩ : ∃ x, x = 1 + B3 := ⟨_, rfl⟩
          rw [← hA, ← hB1, ← hB2, ← hB3, ← hM] at HSX
          have hD0 := Nat.mul_le_mul (show A ≤ 40 by omega) (show M ≤ 1000 by omega)
          obtain ⟨D, hDD⟩ : ∃ x, x = A * M := ⟨_, rfl⟩
          rw [← hDD] at HSX hD0
          have t3 : IntKind.i64.wrap ((LM : Int) - (F : Int)) = (D : Int) := by rw [IntWalk.i64_in _ ⟨by omega, by omega⟩]; omega
          have t5 : IntKind.i64.wrap ((k : Int) - 1) = (A : Int) := by rw [IntWalk.i64_in _ ⟨by omega, by omega⟩]; omega
          have t10 : IntKind.i64.wrap (1 + (pn : Int)) = (B1 : Int) := by rw [IntWalk.i64_in _ ⟨by omega, by omega⟩]; omega
          have t15 : IntKind.i64.wrap ((B1 : Int) + (nn : Int)) = (B2 : Int) := by rw [IntWalk.i64_in _ ⟨by omega, by omega⟩]; omega
          have t16 : IntKind.i64.wrap (2 * (B2 : Int)) = (B3 : Int) := by rw [IntWalk.i64_in _ ⟨by omega, by omega⟩]; omega
          have t17 : IntKind.i64.wrap (1 + (B3 : Int)) = (M : Int) := by rw [IntWalk.i64_in _ ⟨by omega, by omega⟩]; omega
          have t18 : IntKind.i64.wrap ((A : Int) * (M : Int)) = (D : Int) := by rw [show (A : Int) * (M : Int) = (D : Int) by rw [hDD]; exact (Int.natCast_mul A M).symm, IntWalk.i64_in _ ⟨by omega, by omega⟩]
          have t19 : ((D : Int) == (D : Int)) = true := beqT rfl
          have HSS : Hid ((fun w' => w'.cell? ⟨q, 0, none⟩ = some (.int .i64 sc) ∧ w'.cell? ⟨q, 1, none⟩ = some (.int .u64 (ze : Int)) ∧ w'.cell? ⟨q, 2, none⟩ = some (.int .i64 po) ∧ w'.cell? ⟨q, 3, none⟩ = some (.slice ao pn c) ∧ w'.cell? ⟨q, 4, none⟩ = some (.int .i64 no) ∧ w'.cell? ⟨q, 5, none⟩ = some (.slice bo nn d)) wr.drew) := by
            have hb := HistBox.same (S := fun _ => False) HQr.out (Kept.refl _ _).drew (fun x => x)
            obtain ⟨y0, y1, y2, y3, y4, y5⟩ := HistBox.c (h := ⟨sc, ze, po, pl, no, nl⟩) hb
            simp only [← hpn, ← hnn] at y3 y5
            exact Lib.hid ⟨y0, y1, y2, y3, y4, y5⟩
          have hkd := (Kept.refl (fun _ => False) wr).drew
          have HLD := Lib.hid (bwlen_any _ _ _ _ _ (HXr.out.bw.keptF hkd))
          rw [← hLM] at HLD
          have HKF := Lib.hid (HK2.out.trans (HXr.out.mp.kept.trans hkd))
          clear hd HSX h2 hso HMM hpn hnn hLM hA hB1 hB2 hB3 hM hD0 hDD hlen hkd hk1 hkm x0 x1 x2 x3 x4 x5
          go_upto_region 15 with fail
          refine AnyBut.start (S := fun w' => w'.cell? ⟨q, 0, none⟩ = some (.int .i64 sc) ∧ w'.cell? ⟨q, 1, none⟩ = some (.int .u64 (ze : Int)) ∧ w'.cell? ⟨q, 2, none⟩ = some (.int .i64 po) ∧ w'.cell? ⟨q, 3, none⟩ = some (.slice ao pn c) ∧ w'.cell? ⟨q, 4, none⟩ = some (.int .i64 no) ∧ w'.cell? ⟨q, 5, none⟩ = some (.slice bo nn d)) (k := 20) (by kernel_rfl) ?_
          refine AnyBut.take (i := 0) (v := ?v1) rfl (by kernel_rfl) (by kernel_rfl) (by kernel_rfl) (by kernel_rfl) (fun _ _ _ h => h) (HSS.out) (Or.inl ⟨by kernel_rfl, ?hy1⟩) ?r1
          case hy1 =>
            intro w hSw
            try dsimp only at hSw
            go_simp
            try with_reducible rfl
          try simp only [Act.put, List.getElem_toArray, List.getElem_cons_zero, List.setIfInBounds_toArray, List.set_cons_zero, List.set_cons_succ]
          refine AnyBut.take (i := 2) (v := ?v2) rfl (by kernel_rfl) (by kernel_rfl) (by kernel_rfl) (by kernel_rfl) (fun _ _ _ h => h) (HSS.out) (Or.inl ⟨by kernel_rfl, ?hy2⟩) ?r2
          case hy2 =>
            intro w hSw
            try dsimp only at hSw
            go_simp
            try with_reducible rfl
          try simp only [Act.put, List.getElem_toArray, List.getElem_cons_succ, List.getElem_cons_zero, List.setIfInBounds_toArray, List.set_cons_zero, List.set_cons_succ]
          refine AnyBut.take (i := 4) (v := ?v3) rfl (by kernel_rfl) (by kernel_rfl) (by kernel_rfl) (by kernel_rfl) (fun _ _ _ h => h) (HSS.out) (Or.inl ⟨by kernel_rfl, ?hy3⟩) ?r3
          case hy3 =>
            intro w hSw
            try dsimp only at hSw
            go_simp
            try with_reducible rfl
          try simp only [Act.put, List.getElem_toArray, List.getElem_cons_succ, List.getElem_cons_zero, List.setIfInBounds_toArray, List.set_cons_zero, List.set_cons_succ]
          refine AnyBut.take (i := 5) (v := ?v4) rfl (by kernel_rfl) (by kernel_rfl) (by kernel_rfl) (by kernel_rfl) (fun _ _ _ h => h) (HSS.out) (Or.inl ⟨by kernel_rfl, ?hy4⟩) ?r4
          case hy4 =>
            intro w hSw
            try dsimp only at hSw
            go_simp
            try with_reducible rfl
          try simp only [Act.put, List.getElem_toArray, List.getElem_cons_succ, List.getElem_cons_zero, List.setIfInBounds_toArray, List.set_cons_zero, List.set_cons_succ]
          refine AnyBut.take (i := 6) (v := ?v5) rfl (by kernel_rfl) (by kernel_rfl) (by kernel_rfl) (by kernel_rfl) (fun _ _ _ h => h) (HSS.out) (Or.inl ⟨by kernel_rfl, ?hy5⟩) ?r5
          case hy5 =>
            intro w hSw
            try dsimp only at hSw
            go_simp
            try with_reducible rfl
          try simp only [Act.put, List.getElem_toArray, List.getElem_cons_succ, List.getElem_cons_zero, List.setIfInBounds_toArray, List.set_cons_zero, List.set_cons_succ]
          refine AnyBut.take (i := 7) (v := ?v6) rfl (by kernel_rfl) (by kernel_rfl) (by kernel_rfl) (by kernel_rfl) (fun _ _ _ h => h) (HSS.out) (Or.inl ⟨by kernel_rfl, ?hy6⟩) ?r6
          case hy6 =>
            intro w hSw
            try dsimp only at hSw
            go_simp
            try with_reducible rfl
          try simp only [Act.put, List.getElem_toArray, List.getElem_cons_succ, List.getElem_cons_zero, List.setIfInBounds_toArray, List.set_cons_zero, List.set_cons_succ]
          refine AnyBut.take (i := 8) (v := ?v7) rfl (by kernel_rfl) (by kernel_rfl) (by kernel_rfl) (by kernel_rfl) (fun _ _ _ h => h) (HSS.out) (Or.inl ⟨by kernel_rfl, ?hy7⟩) ?r7
          case hy7 =>
            intro w hSw
            try dsimp only at hSw
            go_simp
            try with_reducible rfl
          try simp only [Act.put, List.getElem_toArray, List.getElem_cons_succ, List.getElem_cons_zero, List.setIfInBounds_toArray, List.set_cons_zero, List.set_cons_succ]
          refine AnyBut.take (i := 9) (v := ?v8) rfl (by kernel_rfl) (by kernel_rfl) (by kernel_rfl) (by kernel_rfl) (fun _ _ _ h => h) (HSS.out) (Or.inl ⟨by kernel_rfl, ?hy8⟩) ?r8
          case hy8 =>
            intro w hSw
            try dsimp only at hSw
            go_simp
            try with_reducible rfl
          try simp only [Act.put, List.getElem_toArray, List.getElem_cons_succ, List.getElem_cons_zero, List.setIfInBounds_toArray, List.set_cons_zero, List.set_cons_succ]
          refine AnyBut.take (i := 10) (v := ?v9) rfl (by kernel_rfl) (by kernel_rfl) (by kernel_rfl) (by kernel_rfl) (fun _ _ _ h => h) (HSS.out) (Or.inl ⟨by kernel_rfl, ?hy9⟩) ?r9
          case hy9 =>
            intro w hSw
            try dsimp only at hSw
            go_simp
            try with_reducible rfl
          try simp only [Act.put, List.getElem_toArray, List.getElem_cons_succ, List.getElem_cons_zero, List.setIfInBounds_toArray, List.set_cons_zero, List.set_cons_succ]
          refine AnyBut.take (i := 11) (v := ?v10) rfl (by kernel_rfl) (by kernel_rfl) (by kernel_rfl) (by kernel_rfl) (fun _ _ _ h => h) (HSS.out) (Or.inl ⟨by kernel_rfl, ?hy10⟩) ?r10
          case hy10 =>
            intro w hSw
            try dsimp only at hSw
            go_simp
            try with_reducible rfl
          try simp only [Act.put, List.getElem_toArray, List.getElem_cons_succ, List.getElem_cons_zero, List.setIfInBounds_toArray, List.set_cons_zero, List.set_cons_succ]
          refine AnyBut.take (i := 12) (v := ?v11) rfl (by kernel_rfl) (by kernel_rfl) (by kernel_rfl) (by kernel_rfl) (fun _ _ _ h => h) (HSS.out) (Or.inl ⟨by kernel_rfl, ?hy11⟩) ?r11
          case hy11 =>
            intro w hSw
            try dsimp only at hSw
            go_simp
            try with_reducible rfl
          try simp only [Act.put, List.getElem_toArray, List.getElem_cons_succ, List.getElem_cons_zero, List.setIfInBounds_toArray, List.set_cons_zero, List.set_cons_succ]
          refine AnyBut.take (i := 13) (v := ?v12) rfl (by kernel_rfl) (by kernel_rfl) (by kernel_rfl) (by kernel_rfl) (fun _ _ _ h => h) (HSS.out) (Or.inl ⟨by kernel_rfl, ?hy12⟩) ?r12
          case hy12 =>
            intro w hSw
            try dsimp only at hSw
            go_simp
            try with_reducible rfl
          try simp only [Act.put, List.getElem_toArray, List.getElem_cons_succ, List.getElem_cons_zero, List.setIfInBounds_toArray, List.set_cons_zero, List.set_cons_succ]
          refine AnyBut.take (i := 14) (v := ?v13) rfl (by kernel_rfl) (by kernel_rfl) (by kernel_rfl) (by kernel_rfl) (fun _ _ _ h => h) (HSS.out) (Or.inl ⟨by kernel_rfl, ?hy13⟩) ?r13
          case hy13 =>
            intro w hSw
            try dsimp only at hSw
            go_simp
            try with_reducible rfl
          try simp only [Act.put, List.getElem_toArray, List.getElem_cons_succ, List.getElem_cons_zero, List.setIfInBounds_toArray, List.set_cons_zero, List.set_cons_succ]
          refine AnyBut.take (i := 15) (v := ?v14) rfl (by kernel_rfl) (by kernel_rfl) (by kernel_rfl) (by kernel_rfl) (fun _ _ _ h => h) (HSS.out) (Or.inl ⟨by kernel_rfl, ?hy14⟩) ?r14
          case hy14 =>
            intro w hSw
            try dsimp only at hSw
            go_simp
            try with_reducible rfl
          try simp only [Act.put, List.getElem_toArray, List.getElem_cons_succ, List.getElem_cons_zero, List.setIfInBounds_toArray, List.set_cons_zero, List.set_cons_succ]
          refine AnyBut.take (i := 16) (v := ?v15) rfl (by kernel_rfl) (by kernel_rfl) (by kernel_rfl) (by kernel_rfl) (fun _ _ _ h => h) (HSS.out) (Or.inl ⟨by kernel_rfl, ?hy15⟩) ?r15
          case hy15 =>
            intro w hSw
            try dsimp only at hSw
            go_simp
            try with_reducible rfl
          try simp only [Act.put, List.getElem_toArray, List.getElem_cons_succ, List.getElem_cons_zero, List.setIfInBounds_toArray, List.set_cons_zero, List.set_cons_succ]
          refine AnyBut.take (i := 17) (v := ?v16) rfl (by kernel_rfl) (by kernel_rfl) (by kernel_rfl) (by kernel_rfl) (fun _ _ _ h => h) (HSS.out) (Or.inl ⟨by kernel_rfl, ?hy16⟩) ?r16
          case hy16 =>
            intro w hSw
            try dsimp only at hSw
            go_simp
            try with_reducible rfl
          try simp only [Act.put, List.getElem_toArray, List.getElem_cons_succ, List.getElem_cons_zero, List.setIfInBounds_toArray, List.set_cons_zero, List.set_cons_succ]
          refine AnyBut.take (i := 18) (v := ?v17) rfl (by kernel_rfl) (by kernel_rfl) (by kernel_rfl) (by kernel_rfl) (fun _ _ _ h => h) (HSS.out) (Or.inl ⟨by kernel_rfl, ?hy17⟩) ?r17
          case hy17 =>
            intro w hSw
            try dsimp only at hSw
            go_simp
            try with_reducible rfl
          try simp only [Act.put, List.getElem_toArray, List.getElem_cons_succ, List.getElem_cons_zero, List.setIfInBounds_toArray, List.set_cons_zero, List.set_cons_succ]
          refine AnyBut.one (i := 1) (by kernel_rfl) rfl (fun K hK => ?_)
          go_simp
          go_wp2_with fail
          refine HLD.out.mono ?_
          rintro e w' ⟨rfl, rfl⟩
          go_wp2
          refine hK.out _ _ (HSS.out) ?_
          clear hK K
          try simp only [Act.put, List.getElem_toArray, List.getElem_cons_succ, List.getElem_cons_zero, List.setIfInBounds_toArray, List.set_cons_zero, List.set_cons_succ]
          refine AnyBut.take (i := 3) (v := ?v18) rfl (by kernel_rfl) (by kernel_rfl) (by kernel_rfl) (by kernel_rfl) (fun _ _ _ h => h) (HSS.out) (Or.inl ⟨by kernel_rfl, ?hy18⟩) ?r18
          case hy18 =>
            intro w hSw
            try dsimp only at hSw
            go_simp
            try with_reducible rfl
          try simp only [Act.put, List.getElem_toArray, List.getElem_cons_succ, List.getElem_cons_zero, List.setIfInBounds_toArray, List.set_cons_zero, List.set_cons_succ]
          refine AnyBut.take (i := 19) (v := ?v19) rfl (by kernel_rfl) (by kernel_rfl) (by kernel_rfl) (by kernel_rfl) (fun _ _ _ h => h) (HSS.out) (Or.inl ⟨by kernel_rfl, ?hy19⟩) ?r19
          case hy19 =>
            intro w hSw
            try dsimp only at hSw
            go_simp
            try with_reducible rfl
          try simp only [Act.put, List.getElem_toArray, List.getElem_cons_succ, List.getElem_cons_zero, List.setIfInBounds_toArray, List.set_cons_zero, List.set_cons_succ]
          refine AnyBut.last (by kernel_rfl) rfl (by kernel_rfl) (fun K hK => ?_)
          go_simp
          refine hK.out _ _ ?_
          clear hK K
          try simp only [Act.put, List.getElem_toArray, List.getElem_cons_succ, List.getElem_cons_zero, List.setIfInBounds_toArray, List.set_cons_zero, List.set_cons_succ]
          go_wp2
          go_ret
          exact ⟨rfl, HKF.out⟩
    · have hk : Kept (fun _ => False) w4 w5 := by
        rcases hq with ⟨_, h⟩ | ⟨h, _⟩
        · exact h
        · exact absurd h he
      have q0 : ((E : Int) != 0) = true := bneT (by omega)
      have HX5 := Lib.hid (HX4.out.on hk)
      have hlen := bwlen_any _ _ _ _ _ HX5.out.bw
      rw [HS0.out] at hlen
      have HLE := Lib.hid (show Calls Tryd.prog 16 #[.pointer (some ⟨p, 0, none⟩)] w5 (fun e w' => e = .returned (.int .i64 0) ∧ w5 = w') from hlen)
      have HNE := Lib.hid (show Calls Tryd.prog 42 #[.pointer (some ⟨r, 0, none⟩)] w5 (fun e w' => e = .returned (.int .i64 0) ∧ w' = w5) from hlen_any _ _ _ _ _ _ HX5.out.row)
      clear hq hk hlen he
      go_wp2_with fail
      refine HLE.out.mono ?_
      rintro e w' ⟨rfl, rfl⟩
      go_wp2_with fail
      refine HNE.out.mono ?_
      rintro e w' ⟨rfl, rfl⟩
      go_wp2
      go_ret
      exact ⟨rfl, HK2.out.trans HX5.out.mp.kept⟩
theorem histbitsSame_walk (x : HistV) (pv nv : Value) (n : Int) (W : World) (i0 : HistIn W x pv nv) (hn : -9223372036854775808 ≤ n ∧ n ≤ 9223372036854775807) (HT : ClassTab W) :
    Calls Tryd.prog 9 #[histV x pv nv, .int .i64 n] W fun e w' => e = .returned (.bool true) ∧ Kept (fun _ => False) W w' :=
  same10_walk0 x pv nv n W i0.at_ i0.ok hn HT (World.block_lt_of_cell? W _ (HT 0 (by omega)))
end Go.Proofs.YtjpnfadmblmjbaaDoor

