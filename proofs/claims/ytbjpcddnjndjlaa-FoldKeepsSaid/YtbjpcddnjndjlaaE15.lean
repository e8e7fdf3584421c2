/- package fold: Empty; layer 9 is awake. -/
import Derived.Test.YtbjpcddnjndjlaaE14
namespace Go.Proofs.Ytbjpcddnjndjlaa
open Go.RowKit
attribute [local go_sem ↓] Go.wp_at_zero Go.wp_at_succ

set_option maxHeartbeats 1000000 in
theorem foldEmpty_any (h : HistV) (pv nv : Value) (w : World) (ha : HistAt w h pv nv) :
    Calls Try.prog 34 #[histV h pv nv] w fun e w' => e = .returned (.bool (decide (h.ze = 0 ∧ h.pl.length = 0 ∧ h.nl.length = 0))) ∧ Kept (fun _ => False) w w' := by
  obtain ⟨⟨ao, c, rfl⟩, bo, d, rfl⟩ := ha.sl
  obtain ⟨n1, hn1⟩ : ∃ n, n = h.pl.length := ⟨_, rfl⟩
  obtain ⟨n2, hn2⟩ : ∃ n, n = h.nl.length := ⟨_, rfl⟩
  obtain ⟨z, hz⟩ : ∃ n, n = h.ze := ⟨_, rfl⟩
  unfold histV
  rw [← hn1, ← hn2, ← hz]
  clear ha hn1 hn2 hz
  by_cases h0 : z = 0
  · have q0 : ((z : Int) == 0) = true := beqT (by omega)
    by_cases h1 : n1 = 0
    · have q1 : ((n1 : Int) == 0) = true := beqT (by omega)
      by_cases h2 : n2 = 0
      · have q2 : ((n2 : Int) == 0) = true := beqT (by omega)
        rw [decide_eq_true ⟨h0, h1, h2⟩]
        clear h0 h1 h2
        go_enter Try.func34, Try.ntmps34
        go_wp2
        go_ret
        exact ⟨rfl, (Kept.refl _ _).alloc _⟩
      · have q2 : ((n2 : Int) == 0) = false := beqF (by omega)
        rw [decide_eq_false (by omega)]
        clear h0 h1 h2
        go_enter Try.func34, Try.ntmps34
        go_wp2
        go_ret
        exact ⟨rfl, (Kept.refl _ _).alloc _⟩
    · have q1 : ((n1 : Int) == 0) = false := beqF (by omega)
      rw [decide_eq_false (by omega)]
      clear h0 h1
      go_enter Try.func34, Try.ntmps34
      go_wp2
      go_ret
      exact ⟨rfl, (Kept.refl _ _).alloc _⟩
  · have q0 : ((z : Int) == 0) = false := beqF (by omega)
    rw [decide_eq_false (by omega)]
    clear h0
    go_enter Try.func34, Try.ntmps34
    go_wp2
    go_ret
    exact ⟨rfl, (Kept.refl _ _).alloc _⟩

def awA : HistV := ⟨1, 0, 2, [1], 0, []⟩
def awB : HistV := ⟨0, 0, 1, [1], 0, []⟩
def awX : HistV := ⟨0, 0, 1, [2], 0, []⟩
theorem aw_merge : mgE awA awB = 0 ∧ mgH awA awB = awX := by
  have h : mgE awA awB = 0 := by decide +kernel
  have hX : levX awA awB = awB := by
    have e : levE awA awB = 0 := by decide +kernel
    unfold levX; rw [if_pos e]
    have e2 : (awA.sc - levS awA awB).toNat = 1 := by decide +kernel
    rw [e2]
    have h1 : downO awA.po awA.pl 1 = 1 := by decide +kernel
    have h2 : downL awA.po awA.pl 1 = [1] := by decide +kernel
    have h3 : downO awA.no awA.nl 1 = 0 := by decide +kernel
    have h4 : downL awA.no awA.nl 1 = [] := by decide +kernel
    unfold downH; rw [h1, h2, h3, h4]; rfl
  have hY : levY awA awB = awB := by
    have e : levE awA awB = 0 := by decide +kernel
    unfold levY; rw [if_pos e]
    have e2 : (awB.sc - levS awA awB).toNat = 0 := by decide +kernel
    rw [e2]
    exact downH_zero awB (by decide +kernel)
  refine ⟨h, ?_⟩
  unfold mgH
  rw [if_pos h, hX, hY]
  have h1 : mgO awB.po awB.pl awB.po awB.pl = 1 := by decide +kernel
  have h2 : mgR awB.po awB.pl awB.po awB.pl = [2] := by decide +kernel
  have h3 : mgO awB.no awB.nl awB.no awB.nl = 0 := by decide +kernel
  have h4 : mgR awB.no awB.nl awB.no awB.nl = [] := by decide +kernel
  unfold mgH2; rw [h1, h2, h3, h4]; rfl
theorem aw_sub : SubH awX awB awB 0 := by
  have e : levE awX awB = 0 := by decide +kernel
  have hX : levX awX awB = awX := by
    unfold levX; rw [if_pos e]
    have e2 : (awX.sc - levS awX awB).toNat = 0 := by decide +kernel
    rw [e2]
    exact downH_zero awX (by decide +kernel)
  have hY : levY awX awB = awB := by
    unfold levY; rw [if_pos e]
    have e2 : (awB.sc - levS awX awB).toNat = 0 := by decide +kernel
    rw [e2]
    exact downH_zero awB (by decide +kernel)
  have hh : hasS awX.po awX.pl awB.po awB.pl := by
    intro i hi
    have : i = 0 := by have : awB.pl.length = 1 := rfl; omega
    subst this
    decide +kernel
  have hl : lsL awX.po awX.pl awB.po awB.pl = [1] := by decide +kernel
  refine .inr ⟨e, true, 1, [1], true, 0, [], ?_, ?_, .inl ⟨rfl, rfl, ?_, rfl, ?_⟩⟩
  · rw [hX, hY]
    refine .inl ⟨rfl, hh, ?_⟩
    rw [hl]
    exact .inr ⟨0, 1, by omega, by simp, fun j hj => by omega, fun j h1 h2 => by simp at h2; omega, by simp, by simp, rfl, rfl⟩
  · rw [hX, hY]
    refine .inl ⟨rfl, fun i hi => ?_, .inl ⟨fun j hj => ?_, rfl, rfl⟩⟩
    · have : awB.nl.length = 0 := rfl; omega
    · have : (lsL awX.no awX.nl awB.no awB.nl).length = 0 := by unfold lsL; rw [rowF_length]; rfl
      omega
  · rw [hX, hY]; decide
  · rw [hX, hY]; rfl

set_option maxHeartbeats 4000000 in
set_option maxRecDepth 100000 in
theorem awake9 (w : World) : Calls Try.prog 27 #[] w fun e w' => e = .returned (.bool true) ∧ Kept (fun _ => False) w w' := by
  have hnil : ∀ w' : World, SlAt w' (.slice none 0 0) (uvals []) := fun w' => ⟨none, 0, rfl, fun _ => rfl, fun a e => by cases e⟩
  obtain ⟨wA, hwA⟩ : ∃ wA, wA = (w.alloc (.cells #[.int .u64 1] 22)).alloc (.cells #[.int .i64 1, .int .u64 0, .int .i64 2, .slice (some ⟨w.heap.size, 0, none⟩) 1 1, .int .i64 0, .slice none 0 0] 27) := ⟨_, rfl⟩
  have hka : Kept (fun _ => False) w wA := by rw [hwA]; exact ((Kept.refl _ w).alloc _).alloc _
  have ha : HV wA (w.heap.size + 1) awA (.slice (some ⟨w.heap.size, 0, none⟩) 1 1) (.slice none 0 0) := by
    refine ⟨?_, ?_, hnil _⟩
    · rw [hwA]
      have := hist_boxed (w.alloc (.cells #[.int .u64 1] 22)) awA (.slice (some ⟨w.heap.size, 0, none⟩) 1 1) (.slice none 0 0)
      rw [show (w.alloc (.cells #[.int .u64 1] 22)).heap.size = w.heap.size + 1 by simp] at this
      exact this
    · rw [hwA]; exact (slAt_made w [1] 1 rfl _ rfl).kept ((Kept.refl (fun _ => False) _).alloc _) (fun _ _ x => x)
  obtain ⟨wB, hwB⟩ : ∃ wB, wB = (wA.alloc (.cells #[.int .u64 1] 22)).alloc (.cells #[.int .i64 0, .int .u64 0, .int .i64 1, .slice (some ⟨wA.heap.size, 0, none⟩) 1 1, .int .i64 0, .slice none 0 0] 27) := ⟨_, rfl⟩
  have hkb : Kept (fun _ => False) wA wB := by rw [hwB]; exact ((Kept.refl _ wA).alloc _).alloc _
  have hb : HV wB (wA.heap.size + 1) awB (.slice (some ⟨wA.heap.size, 0, none⟩) 1 1) (.slice none 0 0) := by
    refine ⟨?_, ?_, hnil _⟩
    · rw [hwB]
      have := hist_boxed (wA.alloc (.cells #[.int .u64 1] 22)) awB (.slice (some ⟨wA.heap.size, 0, none⟩) 1 1) (.slice none 0 0)
      rw [show (wA.alloc (.cells #[.int .u64 1] 22)).heap.size = wA.heap.size + 1 by simp] at this
      exact this
    · rw [hwB]; exact (slAt_made wA [1] 1 rfl _ rfl).kept ((Kept.refl (fun _ => False) _).alloc _) (fun _ _ x => x)
  have cap1 : ∀ g : Nat, ∀ a n c, (Value.slice (some ⟨g, 0, none⟩) 1 1) = .slice a n c → n ≤ c := fun g a n c e => by injection e with e1 e2 e3; omega
  have cap0 : ∀ a n c, (Value.slice none 0 0) = .slice a n c → n ≤ c := fun a n c e => by injection e with e1 e2 e3; omega
  have okA : awA.ok := ⟨by decide, by decide, by decide, by decide, by decide, by decide⟩
  have okB : awB.ok := ⟨by decide, by decide, by decide, by decide, by decide, by decide⟩
  have okX : awX.ok := ⟨by decide, by decide, by decide, by decide, by decide, by decide⟩
  have hm := foldMerge_any awA awB _ _ _ _ wB ⟨ha.at_.on hkb, okA, cap1 _, cap0⟩ ⟨hb.at_, okB, cap1 _, cap0⟩ (by decide) (by decide) (by decide) (by decide)
  rw [aw_merge.1, aw_merge.2] at hm
  have HM := Lib.hid hm
  have HS := Lib.hid fun w' p n (k : HistIn w' awX p n) (k2 : HistAt w' awB (.slice (some ⟨wA.heap.size, 0, none⟩) 1 1) (.slice none 0 0)) => foldSub_any awX awB p n _ _ w' k ⟨k2, okB, cap1 _, cap0⟩ (by decide) (by decide) (by decide) (by decide)
  have HAT1 := Lib.hid fun w' v (k : SlAt w' v (uvals [2])) => histAt_any 1 1 [2] v w' k ⟨by decide, by decide⟩ ⟨by decide, by decide⟩ (by decide)
  have HAT2 := Lib.hid fun w' v (k : SlAt w' v (uvals [1])) => histAt_any 1 1 [1] v w' k ⟨by decide, by decide⟩ ⟨by decide, by decide⟩ (by decide)
  rw [show atN 1 [2] 1 = 2 by decide +kernel] at HAT1
  rw [show atN 1 [1] 1 = 1 by decide +kernel] at HAT2
  have HEM := Lib.hid fun w' p n (k : HistAt w' awB p n) => foldEmpty_any awB p n w' k
  have HEM2 := Lib.hid fun w' (k : HistAt w' zeroH (.slice none 0 0) (.slice none 0 0)) => foldEmpty_any zeroH _ _ w' k
  rw [show decide (awB.ze = 0 ∧ awB.pl.length = 0 ∧ awB.nl.length = 0) = false by decide] at HEM
  rw [show decide (zeroH.ze = 0 ∧ zeroH.pl.length = 0 ∧ zeroH.nl.length = 0) = true by decide] at HEM2
  have HKA := Lib.hid hka
  have HK0 := Lib.hid hkb
  have HVA := Lib.hid (ha.on hkb)
  have HVB := Lib.hid hb
  have HWA := Lib.hid hwA
  have HWB := Lib.hid hwB
  have HKA0 := Lib.hid (hka.trans hkb)
  unfold awA awB awX histV at HM
  unfold awX awB histV at HS
  unfold awB histV at HEM
  unfold zeroH histV at HEM2
  unfold awA at HVA
  unfold awB at HVB
  simp only at HM HS HEM HEM2
  clear hka ha hkb hb hwA hwB hm okA okB cap1 cap0 hnil
  go_enter Try.func27, Try.ntmps27
  go_upto_region 2 with fail
  rw [← HWA.out]
  go_upto_region 3 with fail
  rw [← HWB.out]
  obtain ⟨c0, c1, c2, c3, c4, c5⟩ := HVA.out.box.c
  dsimp only at c0 c1 c2 c3 c4 c5
  obtain ⟨d0, d1, d2, d3, d4, d5⟩ := HVB.out.box.c
  dsimp only at d0 d1 d2 d3 d4 d5
  go_wp2_with fail
  refine HM.out.mono ?_
  rintro e w1 ⟨pv, nv, rfl, m1, m2⟩
  clear c0 c1 c2 c3 c4 c5 d0 d1 d2 d3 d4 d5
  obtain ⟨a1, q1, e1⟩ := m1.slice
  obtain ⟨b1, r1, e2⟩ := m2.slice
  have e1' : pv = .slice a1 1 q1 := e1
  have e2' : nv = .slice b1 0 r1 := e2
  clear e1 e2
  subst e1' e2'
  unfold histV
  dsimp only
  have hs := m1.kept.alloc (.cells #[.int .i64 0, .int .u64 0, .int .i64 1, .slice a1 1 q1, .int .i64 0, .slice b1 0 r1] 27)
  have hv : HV (w1.alloc (.cells #[.int .i64 0, .int .u64 0, .int .i64 1, .slice a1 1 q1, .int .i64 0, .slice b1 0 r1] 27)) w1.heap.size awX (.slice a1 1 q1) (.slice b1 0 r1) := HV.mk' (R := awX) m1 m2
  have hc1 : 1 ≤ q1 := own_cap m1.own
  have hc2 : 0 ≤ r1 := own_cap m2.own
  obtain ⟨ws1, hws⟩ : ∃ w', w' = w1.alloc (.cells #[.int .i64 0, .int .u64 0, .int .i64 1, .slice a1 1 q1, .int .i64 0, .slice b1 0 r1] 27) := ⟨_, rfl⟩
  rw [← hws] at hs hv
  have HIN1 : Hid (HistIn ws1 awX (.slice a1 1 q1) (.slice b1 0 r1)) := Lib.hid ⟨hv.at_, okX, fun a n c e => by injection e with e1 e2 e3; omega, fun a n c e => by injection e with e1 e2 e3; omega⟩
  have HS1 := Lib.hid hs
  have HV1 := Lib.hid hv
  have HWS1 := Lib.hid hws
  clear hs hv hws m1 m2 hc1 hc2
  have HK1 := Lib.hid (HK0.out.trans HS1.out)
  have HVB := Lib.hid (HVB.out.on HS1.out)
  go_upto_region 4 with fail
  rw [← HWS1.out]
  unfold awX at HV1
  obtain ⟨c0, c1, c2, c3, c4, c5⟩ := HV1.out.box.c
  dsimp only at c0 c1 c2 c3 c4 c5
  obtain ⟨d0, d1, d2, d3, d4, d5⟩ := HVB.out.box.c
  dsimp only at d0 d1 d2 d3 d4 d5
  go_wp2_with fail
  refine (HS.out _ _ _ HIN1.out HVB.out.at_).mono ?_
  rintro e w2 ⟨R2, E2, hs2, pv, nv, rfl, m1, m2⟩
  obtain ⟨rfl, rfl⟩ := SubH.uniq aw_sub hs2
  unfold awB at m1 m2
  clear hs2 c0 c1 c2 c3 c4 c5 d0 d1 d2 d3 d4 d5
  obtain ⟨a2, q2, e1⟩ := m1.slice
  obtain ⟨b2, r2, e2⟩ := m2.slice
  have e1' : pv = .slice a2 1 q2 := e1
  have e2' : nv = .slice b2 0 r2 := e2
  clear e1 e2
  subst e1' e2'
  unfold histV awB
  dsimp only
  have hs := m1.kept.alloc (.cells #[.int .i64 0, .int .u64 0, .int .i64 1, .slice a2 1 q2, .int .i64 0, .slice b2 0 r2] 27)
  have hv : HV (w2.alloc (.cells #[.int .i64 0, .int .u64 0, .int .i64 1, .slice a2 1 q2, .int .i64 0, .slice b2 0 r2] 27)) w2.heap.size awB (.slice a2 1 q2) (.slice b2 0 r2) := HV.mk' (R := awB) m1 m2
  have hc1 : 1 ≤ q2 := own_cap m1.own
  have hc2 : 0 ≤ r2 := own_cap m2.own
  obtain ⟨ws2, hws⟩ : ∃ w', w' = w2.alloc (.cells #[.int .i64 0, .int .u64 0, .int .i64 1, .slice a2 1 q2, .int .i64 0, .slice b2 0 r2] 27) := ⟨_, rfl⟩
  rw [← hws] at hs hv
  skip
  have HS2 := Lib.hid hs
  have HV2 := Lib.hid hv
  have HWS2 := Lib.hid hws
  clear hs hv hws m1 m2 hc1 hc2
  have HK2 := Lib.hid (HK1.out.trans HS2.out)
  have HV1 := Lib.hid (HV1.out.on HS2.out)
  go_upto_region 5 with fail
  rw [← HWS2.out]
  unfold awB at HV2
  obtain ⟨c0, c1, c2, c3, c4, c5⟩ := HV1.out.box.c
  dsimp only at c0 c1 c2 c3 c4 c5
  obtain ⟨d0, d1, d2, d3, d4, d5⟩ := HV2.out.box.c
  dsimp only at d0 d1 d2 d3 d4 d5
  go_wp2_with fail
  refine (HAT1.out _ _ HV1.out.at_.p).mono ?_
  rintro e w3 ⟨rfl, k3⟩
  have HS3 := Lib.hid k3
  clear k3
  have HK3 := Lib.hid (HK2.out.trans HS3.out)
  have HV2 := Lib.hid (HV2.out.on HS3.out)
  clear d0 d1 d2 d3 d4 d5
  obtain ⟨d0, d1, d2, d3, d4, d5⟩ := HV2.out.box.c
  dsimp only at d0 d1 d2 d3 d4 d5
  go_wp2_with fail
  refine (HAT2.out _ _ HV2.out.at_.p).mono ?_
  rintro e w4 ⟨rfl, k4⟩
  have HS4 := Lib.hid k4
  clear k4
  have HK4 := Lib.hid (HK3.out.trans HS4.out)
  have HV2 := Lib.hid (HV2.out.on HS4.out)
  clear d0 d1 d2 d3 d4 d5
  obtain ⟨d0, d1, d2, d3, d4, d5⟩ := HV2.out.box.c
  dsimp only at d0 d1 d2 d3 d4 d5
  go_wp2_with fail
  refine (HEM.out _ _ _ HV2.out.at_).mono ?_
  rintro e w5 ⟨rfl, k5⟩
  have HS5 := Lib.hid k5
  clear k5
  have HK5 := Lib.hid (HK4.out.trans HS5.out)
  go_wp2_with fail
  refine (HEM2.out _ (nil_at _)).mono ?_
  rintro e w6 ⟨rfl, k6⟩
  have HS6 := Lib.hid k6
  clear k6
  have HK6 := Lib.hid (HK5.out.trans HS6.out)
  go_wp2
  go_ret
  exact ⟨rfl, HKA.out.trans HK6.out⟩
end Go.Proofs.Ytbjpcddnjndjlaa
