/- Texts put together: SE, PS. -/
import Derived.Test.YtficodklidaheaaDoorZz19
import Derived.Test.YtficodklidaheaaDoorZz4
import Derived.Test.YtficodklidaheaaDoorZz2
/- Layer 18: the document's Find, begin, without (written by tools/gen_XSE.py). -/
namespace Go.Proofs.YtficodklidaheaaDoor
open Go.RowKit
attribute [local go_sem ↓] Go.wp_at_zero Go.wp_at_succ

/-- Which place a name has. -/
def FindTo (L : List RF) (s : ByteArray) (z : Int) : Prop := (z = -1 ∧ ∀ f ∈ L, f.nm ≠ s) ∨ ∃ i f, z = (i : Nat) ∧ L[i]? = some f ∧ f.nm = s
set_option maxRecDepth 100000 in
set_option maxHeartbeats 2000000 in
theorem refFind_any (rb : Nat) (ao : Option Addr) (cp : Nat) (L : List RF) (D : DA) (s : ByteArray) (w : World) (h : RK w rb ao cp L D) :
    Calls Tryd.prog 73 #[.pointer (some ⟨rb, 0, none⟩), .string s] w fun e w' => ∃ z, e = .returned (.int .i64 z) ∧ FindTo L s z ∧ w = w' := by
  have c0 := h.c.1
  have hct := h.ok.count
  have hlen := h.len
  obtain ⟨n, hn⟩ : ∃ n, n = L.length := ⟨_, rfl⟩
  rw [← hn] at c0
  have HH := Lib.hid h
  have HB := Lib.hid (show n ≤ 4096 ∧ n = L.length from ⟨by omega, hn⟩)
  clear h hct hlen hn
  go_enter Tryd.func73, Tryd.ntmps73
  go_wp2
  go_loopg [5] n (fun g s5 wr => ∃ i : Nat, i ≤ n ∧ g = n - i ∧ s5 = .int .i64 i ∧ w = wr ∧ ∀ j f, j < i → L[j]? = some f → f.nm ≠ s)
  case atStart => exact ⟨0, Nat.zero_le _, rfl, rfl, rfl, fun j f hj => by omega⟩
  case round =>
    obtain ⟨i, hin, rfl, rfl, rfl, hno⟩ := hrel
    have HNO := Lib.hid hno
    clear hno
    by_cases hd : i < n
    · have hdi : (i : Int) < (n : Int) := by omega
      have hdd : decide (i < n) = true := decide_eq_true hd
      have HI := Lib.hid hd
      obtain ⟨f, hf⟩ : ∃ f, L[i]? = some f := ⟨_, List.getElem?_eq_getElem (by have := HB.out; omega)⟩
      obtain ⟨gg, oo, hga, hgc⟩ := HH.out.row (by have := HB.out; omega)
      subst hga
      have g0 := hgc i f hf 0 (.string f.nm) rfl
      rw [Nat.add_zero] at g0
      have wi : IntKind.i64.wrap ((i : Int) + 1) = ((i + 1 : Nat) : Int) := by have := HB.out; rw [IntWalk.i64_in _ ⟨by omega, by omega⟩]; omega
      have HF := Lib.hid hf
      obtain ⟨nm, hnm⟩ : ∃ nm, nm = f.nm := ⟨_, rfl⟩
      rw [← hnm] at g0
      by_cases he : nm = s
      · have q1 : (nm.toList == s.toList) = true := by rw [he]; exact beq_self_eq_true _
        have HR := Lib.hid (show FindTo L s (i : Int) from .inr ⟨i, f, rfl, HF.out, by rw [← hnm]; exact he⟩)
        clear hf hgc hd hin he hnm
        go_wp2
        go_ret
        exact ⟨_, rfl, HR.out, rfl⟩
      · have q1 : (nm.toList == s.toList) = false := toList_ne he
        have HR := Lib.hid (show ∀ j g, j < i + 1 → L[j]? = some g → g.nm ≠ s from fun j g hj hg => by
          by_cases e : j = i
          · rw [e, HF.out] at hg
            injection hg with hg
            rw [← hg, ← hnm]
            exact he
          · exact HNO.out j g (by omega) hg)
        clear hf hgc hd hin he hnm
        go_wp2
        go_roundg (n - (i + 1))
        case measure => have := HI.out; omega
        case rel => exact ⟨i + 1, HI.out, rfl, rfl, rfl, HR.out⟩
    · have hdi : ¬ (i : Int) < (n : Int) := by omega
      have hdd : decide (i < n) = false := decide_eq_false hd
      have HR := Lib.hid (show FindTo L s (-1) from .inl ⟨rfl, fun f hf e => by
        obtain ⟨j, hj⟩ := List.mem_iff_getElem?.1 hf
        have := (List.getElem?_eq_some_iff.1 hj).1
        exact HNO.out j f (by have := HB.out; omega) hj e⟩)
      clear hd hin
      go_wp2
      go_ret
      exact ⟨_, rfl, HR.out, rfl⟩
theorem FindTo.get {w : World} {rb cp : Nat} {ao : Option Addr} {L : List RF} {D : DA} (h : RK w rb ao cp L D) {s : ByteArray} {z : Int} (hz : FindTo L s z) : (z = -1 ∧ getM D.L s = none) ∨ ∃ i f, z = (i : Nat) ∧ L[i]? = some f ∧ f.nm = s ∧ getM D.L s = some ⟨f.b, f.s⟩ := by
  rcases hz with ⟨h1, h2⟩ | ⟨i, f, h1, h2, h3⟩
  · refine .inl ⟨h1, getM_none.2 (fun p hp => ?_)⟩
    rw [← h.eq] at hp
    obtain ⟨f, hf, rfl⟩ := List.mem_map.1 hp
    exact h2 f hf
  · refine .inr ⟨i, f, h1, h2, h3, getM_of h.ok.asc.pair ?_⟩
    rw [← h.eq]
    exact List.mem_map.2 ⟨f, List.mem_of_getElem? h2, by rw [← h3]; rfl⟩

set_option maxRecDepth 100000 in
set_option maxHeartbeats 4000000 in
theorem refBegin_any (rb : Nat) (ao : Option Addr) (cp : Nat) (L : List RF) (D : DA) (w : World) (h : RK w rb ao cp L D) :
    Calls Tryd.prog 103 #[.pointer (some ⟨rb, 0, none⟩)] w (RBegan w rb ao cp L (beginD D)) := by
  obtain ⟨c0, c1, c2, c3, c4, c5, c6⟩ := h.c
  cases hd : D.down with
  | true =>
    have HX := Lib.hid (show RBegan w rb ao cp L (beginD D) (.returned (.int .i64 13)) w from by unfold beginD; rw [if_pos hd]; exact ⟨rfl, h, Kept.refl _ _⟩)
    rw [hd] at c2
    clear hd h c0 c1 c3 c4 c5 c6
    go_enter Tryd.func103, Tryd.ntmps103
    go_wp2
    go_ret
    exact HX.out
  | false =>
    rw [hd] at c2
    have f2 := h.box.fz 2
    have f3 := h.box.fz 3
    have f4 := h.box.fz 4
    have f5 := h.box.fz 5
    obtain ⟨r1, r2⟩ := h.ok.failR
    obtain ⟨r3, r4⟩ := h.ok.crashR
    obtain ⟨ca, hca⟩ : ∃ x, x = D.calls := ⟨_, rfl⟩
    obtain ⟨fa, hfa⟩ : ∃ x, x = D.failIn := ⟨_, rfl⟩
    obtain ⟨cr, hcr⟩ : ∃ x, x = D.crashIn := ⟨_, rfl⟩
    obtain ⟨fb, hfb⟩ : ∃ x, x = D.failBy := ⟨_, rfl⟩
    rw [← hca] at c3
    rw [← hfa] at c4 r1 r2
    rw [← hcr] at c5 r3 r4
    rw [← hfb] at c6
    have HH := Lib.hid (And.intro h (And.intro hd (And.intro hca (And.intro hfa (And.intro hcr hfb)))))
    clear h hca hfa hcr hfb hd
    have hc : cr = -1 ∨ cr = 0 ∨ 0 < cr := by omega
    have hf : fa = -1 ∨ fa = 0 ∨ 0 < fa := by omega
    rcases hc with hc | hc | hc
    · rcases hf with hf | hf | hf
      · subst hc
        subst hf
        have HX := Lib.hid (show RBegan w rb ao cp L (beginD D) (.returned (.int .i64 0)) ((w.setCell ⟨rb, 3, none⟩ (.int .i64 (wrap64 (ca + 1))))).drew from by
          obtain ⟨h, hd, hca, hfa, hcr, hfb⟩ := HH.out
          have e1 : max (-1) (D.crashIn - 1) = (-1) := by omega
          have e2 : max (-1) (D.failIn - 1) = (-1) := by omega
          have hb := HH.out.1.box.set 3 (.int .i64 (wrap64 (ca + 1)))
          have hk := kept_set w rb 3 (.int .i64 (wrap64 (ca + 1)))
          have hR : RK ((w.setCell ⟨rb, 3, none⟩ (.int .i64 (wrap64 (ca + 1))))).drew rb ao cp L (countedD D) := (h.turned (w' := (w.setCell ⟨rb, 3, none⟩ (.int .i64 (wrap64 (ca + 1))))) (D' := countedD D) (by
            unfold boxR at hb ⊢
            unfold countedD
            simp only [e1, e2, ← hca, ← hfb, hd]
            rw [← hfa, ← hcr, ← hca, ← hfb] at hb
            first | exact hb | (simp only [hd] at hb; exact hb)
            ) hk rfl (by first | exact countedD_ok h.ok | exact down_ok (countedD_ok h.ok) true)).kept ((Kept.refl (fun _ => False) _).drew) (fun _ _ x => x)
          unfold beginD
          rw [hd, if_neg (by decide)]
          rw [if_neg (by omega)]
          rw [if_neg (by omega)]
          exact ⟨rfl, hR, hk.drew⟩)
        go_enter Tryd.func103, Tryd.ntmps103
        go_upto_region 4 with fail
        go_region
        go_wp2
        go_ret
        exact HX.out
      · subst hc
        subst hf
        have HX := Lib.hid (show RBegan w rb ao cp L (beginD D) (.returned (.int .i64 fb)) (((w.setCell ⟨rb, 3, none⟩ (.int .i64 (wrap64 (ca + 1)))).setCell ⟨rb, 4, none⟩ (.int .i64 (-1)))).drew from by
          obtain ⟨h, hd, hca, hfa, hcr, hfb⟩ := HH.out
          have e1 : max (-1) (D.crashIn - 1) = (-1) := by omega
          have e2 : max (-1) (D.failIn - 1) = (-1) := by omega
          have hb := (HH.out.1.box.set 3 (.int .i64 (wrap64 (ca + 1)))).set 4 (.int .i64 (-1))
          have hk := (kept_set w rb 3 (.int .i64 (wrap64 (ca + 1)))).trans (kept_set _ rb 4 (.int .i64 (-1)))
          have hR : RK (((w.setCell ⟨rb, 3, none⟩ (.int .i64 (wrap64 (ca + 1)))).setCell ⟨rb, 4, none⟩ (.int .i64 (-1)))).drew rb ao cp L (countedD D) := (h.turned (w' := ((w.setCell ⟨rb, 3, none⟩ (.int .i64 (wrap64 (ca + 1)))).setCell ⟨rb, 4, none⟩ (.int .i64 (-1)))) (D' := countedD D) (by
            unfold boxR at hb ⊢
            unfold countedD
            simp only [e1, e2, ← hca, ← hfb, hd]
            rw [← hfa, ← hcr, ← hca, ← hfb] at hb
            first | exact hb | (simp only [hd] at hb; exact hb)
            ) hk rfl (by first | exact countedD_ok h.ok | exact down_ok (countedD_ok h.ok) true)).kept ((Kept.refl (fun _ => False) _).drew) (fun _ _ x => x)
          unfold beginD
          rw [hd, if_neg (by decide)]
          rw [if_neg (by omega)]
          rw [if_pos hfa.symm]
          rw [← hfb]
          exact ⟨rfl, hR, hk.drew⟩)
        go_enter Tryd.func103, Tryd.ntmps103
        go_upto_region 4 with fail
        go_region
        go_wp2
        go_ret
        exact HX.out
      · subst hc
        have p3 : (fa == 0) = false := beqF (by omega)
        have p4 : (0 : Int) ≤ fa := by omega
        have HX := Lib.hid (show RBegan w rb ao cp L (beginD D) (.returned (.int .i64 0)) (((w.setCell ⟨rb, 3, none⟩ (.int .i64 (wrap64 (ca + 1)))).setCell ⟨rb, 4, none⟩ (.int .i64 (fa - 1)))).drew from by
          obtain ⟨h, hd, hca, hfa, hcr, hfb⟩ := HH.out
          have e1 : max (-1) (D.crashIn - 1) = (-1) := by omega
          have e2 : max (-1) (D.failIn - 1) = fa - 1 := by omega
          have hb := (HH.out.1.box.set 3 (.int .i64 (wrap64 (ca + 1)))).set 4 (.int .i64 (fa - 1))
          have hk := (kept_set w rb 3 (.int .i64 (wrap64 (ca + 1)))).trans (kept_set _ rb 4 (.int .i64 (fa - 1)))
          have hR : RK (((w.setCell ⟨rb, 3, none⟩ (.int .i64 (wrap64 (ca + 1)))).setCell ⟨rb, 4, none⟩ (.int .i64 (fa - 1)))).drew rb ao cp L (countedD D) := (h.turned (w' := ((w.setCell ⟨rb, 3, none⟩ (.int .i64 (wrap64 (ca + 1)))).setCell ⟨rb, 4, none⟩ (.int .i64 (fa - 1)))) (D' := countedD D) (by
            unfold boxR at hb ⊢
            unfold countedD
            simp only [e1, e2, ← hca, ← hfb, hd]
            rw [← hfa, ← hcr, ← hca, ← hfb] at hb
            first | exact hb | (simp only [hd] at hb; exact hb)
            ) hk rfl (by first | exact countedD_ok h.ok | exact down_ok (countedD_ok h.ok) true)).kept ((Kept.refl (fun _ => False) _).drew) (fun _ _ x => x)
          unfold beginD
          rw [hd, if_neg (by decide)]
          rw [if_neg (by omega)]
          rw [if_neg (by omega)]
          exact ⟨rfl, hR, hk.drew⟩)
        go_enter Tryd.func103, Tryd.ntmps103
        go_upto_region 4 with fail
        go_region
        go_wp2
        go_ret
        exact HX.out
    · rcases hf with hf | hf | hf
      · subst hc
        subst hf
        have HX := Lib.hid (show RBegan w rb ao cp L (beginD D) (.returned (.int .i64 13)) ((((w.setCell ⟨rb, 3, none⟩ (.int .i64 (wrap64 (ca + 1)))).setCell ⟨rb, 5, none⟩ (.int .i64 (-1))).setCell ⟨rb, 2, none⟩ (.bool true))).drew from by
          obtain ⟨h, hd, hca, hfa, hcr, hfb⟩ := HH.out
          have e1 : max (-1) (D.crashIn - 1) = (-1) := by omega
          have e2 : max (-1) (D.failIn - 1) = (-1) := by omega
          have hb := ((HH.out.1.box.set 3 (.int .i64 (wrap64 (ca + 1)))).set 5 (.int .i64 (-1))).set 2 (.bool true)
          have hk := ((kept_set w rb 3 (.int .i64 (wrap64 (ca + 1)))).trans (kept_set _ rb 5 (.int .i64 (-1)))).trans (kept_set _ rb 2 (.bool true))
          have hR : RK ((((w.setCell ⟨rb, 3, none⟩ (.int .i64 (wrap64 (ca + 1)))).setCell ⟨rb, 5, none⟩ (.int .i64 (-1))).setCell ⟨rb, 2, none⟩ (.bool true))).drew rb ao cp L ({ countedD D with down := true }) := (h.turned (w' := (((w.setCell ⟨rb, 3, none⟩ (.int .i64 (wrap64 (ca + 1)))).setCell ⟨rb, 5, none⟩ (.int .i64 (-1))).setCell ⟨rb, 2, none⟩ (.bool true))) (D' := { countedD D with down := true }) (by
            unfold boxR at hb ⊢
            unfold countedD
            simp only [e1, e2, ← hca, ← hfb]
            rw [← hfa, ← hcr, ← hca, ← hfb] at hb
            first | exact hb | (simp only [hd] at hb; exact hb)
            ) hk rfl (by first | exact countedD_ok h.ok | exact down_ok (countedD_ok h.ok) true)).kept ((Kept.refl (fun _ => False) _).drew) (fun _ _ x => x)
          unfold beginD
          rw [hd, if_neg (by decide)]
          rw [if_pos hcr.symm]
          exact ⟨rfl, hR, hk.drew⟩)
        go_enter Tryd.func103, Tryd.ntmps103
        go_upto_region 4 with fail
        go_region
        go_wp2
        go_ret
        exact HX.out
      · subst hc
        subst hf
        have HX := Lib.hid (show RBegan w rb ao cp L (beginD D) (.returned (.int .i64 13)) (((((w.setCell ⟨rb, 3, none⟩ (.int .i64 (wrap64 (ca + 1)))).setCell ⟨rb, 5, none⟩ (.int .i64 (-1))).setCell ⟨rb, 4, none⟩ (.int .i64 (-1))).setCell ⟨rb, 2, none⟩ (.bool true))).drew from by
          obtain ⟨h, hd, hca, hfa, hcr, hfb⟩ := HH.out
          have e1 : max (-1) (D.crashIn - 1) = (-1) := by omega
          have e2 : max (-1) (D.failIn - 1) = (-1) := by omega
          have hb := (((HH.out.1.box.set 3 (.int .i64 (wrap64 (ca + 1)))).set 5 (.int .i64 (-1))).set 4 (.int .i64 (-1))).set 2 (.bool true)
          have hk := (((kept_set w rb 3 (.int .i64 (wrap64 (ca + 1)))).trans (kept_set _ rb 5 (.int .i64 (-1)))).trans (kept_set _ rb 4 (.int .i64 (-1)))).trans (kept_set _ rb 2 (.bool true))
          have hR : RK (((((w.setCell ⟨rb, 3, none⟩ (.int .i64 (wrap64 (ca + 1)))).setCell ⟨rb, 5, none⟩ (.int .i64 (-1))).setCell ⟨rb, 4, none⟩ (.int .i64 (-1))).setCell ⟨rb, 2, none⟩ (.bool true))).drew rb ao cp L ({ countedD D with down := true }) := (h.turned (w' := ((((w.setCell ⟨rb, 3, none⟩ (.int .i64 (wrap64 (ca + 1)))).setCell ⟨rb, 5, none⟩ (.int .i64 (-1))).setCell ⟨rb, 4, none⟩ (.int .i64 (-1))).setCell ⟨rb, 2, none⟩ (.bool true))) (D' := { countedD D with down := true }) (by
            unfold boxR at hb ⊢
            unfold countedD
            simp only [e1, e2, ← hca, ← hfb]
            rw [← hfa, ← hcr, ← hca, ← hfb] at hb
            first | exact hb | (simp only [hd] at hb; exact hb)
            ) hk rfl (by first | exact countedD_ok h.ok | exact down_ok (countedD_ok h.ok) true)).kept ((Kept.refl (fun _ => False) _).drew) (fun _ _ x => x)
          unfold beginD
          rw [hd, if_neg (by decide)]
          rw [if_pos hcr.symm]
          exact ⟨rfl, hR, hk.drew⟩)
        go_enter Tryd.func103, Tryd.ntmps103
        go_upto_region 4 with fail
        go_region
        go_wp2
        go_ret
        exact HX.out
      · subst hc
        have p3 : (fa == 0) = false := beqF (by omega)
        have p4 : (0 : Int) ≤ fa := by omega
        have HX := Lib.hid (show RBegan w rb ao cp L (beginD D) (.returned (.int .i64 13)) (((((w.setCell ⟨rb, 3, none⟩ (.int .i64 (wrap64 (ca + 1)))).setCell ⟨rb, 5, none⟩ (.int .i64 (-1))).setCell ⟨rb, 4, none⟩ (.int .i64 (fa - 1))).setCell ⟨rb, 2, none⟩ (.bool true))).drew from by
          obtain ⟨h, hd, hca, hfa, hcr, hfb⟩ := HH.out
          have e1 : max (-1) (D.crashIn - 1) = (-1) := by omega
          have e2 : max (-1) (D.failIn - 1) = fa - 1 := by omega
          have hb := (((HH.out.1.box.set 3 (.int .i64 (wrap64 (ca + 1)))).set 5 (.int .i64 (-1))).set 4 (.int .i64 (fa - 1))).set 2 (.bool true)
          have hk := (((kept_set w rb 3 (.int .i64 (wrap64 (ca + 1)))).trans (kept_set _ rb 5 (.int .i64 (-1)))).trans (kept_set _ rb 4 (.int .i64 (fa - 1)))).trans (kept_set _ rb 2 (.bool true))
          have hR : RK (((((w.setCell ⟨rb, 3, none⟩ (.int .i64 (wrap64 (ca + 1)))).setCell ⟨rb, 5, none⟩ (.int .i64 (-1))).setCell ⟨rb, 4, none⟩ (.int .i64 (fa - 1))).setCell ⟨rb, 2, none⟩ (.bool true))).drew rb ao cp L ({ countedD D with down := true }) := (h.turned (w' := ((((w.setCell ⟨rb, 3, none⟩ (.int .i64 (wrap64 (ca + 1)))).setCell ⟨rb, 5, none⟩ (.int .i64 (-1))).setCell ⟨rb, 4, none⟩ (.int .i64 (fa - 1))).setCell ⟨rb, 2, none⟩ (.bool true))) (D' := { countedD D with down := true }) (by
            unfold boxR at hb ⊢
            unfold countedD
            simp only [e1, e2, ← hca, ← hfb]
            rw [← hfa, ← hcr, ← hca, ← hfb] at hb
            first | exact hb | (simp only [hd] at hb; exact hb)
            ) hk rfl (by first | exact countedD_ok h.ok | exact down_ok (countedD_ok h.ok) true)).kept ((Kept.refl (fun _ => False) _).drew) (fun _ _ x => x)
          unfold beginD
          rw [hd, if_neg (by decide)]
          rw [if_pos hcr.symm]
          exact ⟨rfl, hR, hk.drew⟩)
        go_enter Tryd.func103, Tryd.ntmps103
        go_upto_region 4 with fail
        go_region
        go_wp2
        go_ret
        exact HX.out
    · rcases hf with hf | hf | hf
      · subst hf
        have p1 : (cr == 0) = false := beqF (by omega)
        have p2 : (0 : Int) ≤ cr := by omega
        have HX := Lib.hid (show RBegan w rb ao cp L (beginD D) (.returned (.int .i64 0)) (((w.setCell ⟨rb, 3, none⟩ (.int .i64 (wrap64 (ca + 1)))).setCell ⟨rb, 5, none⟩ (.int .i64 (cr - 1)))).drew from by
          obtain ⟨h, hd, hca, hfa, hcr, hfb⟩ := HH.out
          have e1 : max (-1) (D.crashIn - 1) = cr - 1 := by omega
          have e2 : max (-1) (D.failIn - 1) = (-1) := by omega
          have hb := (HH.out.1.box.set 3 (.int .i64 (wrap64 (ca + 1)))).set 5 (.int .i64 (cr - 1))
          have hk := (kept_set w rb 3 (.int .i64 (wrap64 (ca + 1)))).trans (kept_set _ rb 5 (.int .i64 (cr - 1)))
          have hR : RK (((w.setCell ⟨rb, 3, none⟩ (.int .i64 (wrap64 (ca + 1)))).setCell ⟨rb, 5, none⟩ (.int .i64 (cr - 1)))).drew rb ao cp L (countedD D) := (h.turned (w' := ((w.setCell ⟨rb, 3, none⟩ (.int .i64 (wrap64 (ca + 1)))).setCell ⟨rb, 5, none⟩ (.int .i64 (cr - 1)))) (D' := countedD D) (by
            unfold boxR at hb ⊢
            unfold countedD
            simp only [e1, e2, ← hca, ← hfb, hd]
            rw [← hfa, ← hcr, ← hca, ← hfb] at hb
            first | exact hb | (simp only [hd] at hb; exact hb)
            ) hk rfl (by first | exact countedD_ok h.ok | exact down_ok (countedD_ok h.ok) true)).kept ((Kept.refl (fun _ => False) _).drew) (fun _ _ x => x)
          unfold beginD
          rw [hd, if_neg (by decide)]
          rw [if_neg (by omega)]
          rw [if_neg (by omega)]
          exact ⟨rfl, hR, hk.drew⟩)
        go_enter Tryd.func103, Tryd.ntmps103
        go_upto_region 4 with fail
        go_region
        go_wp2
        go_ret
        exact HX.out
      · subst hf
        have p1 : (cr == 0) = false := beqF (by omega)
        have p2 : (0 : Int) ≤ cr := by omega
        have HX := Lib.hid (show RBegan w rb ao cp L (beginD D) (.returned (.int .i64 fb)) ((((w.setCell ⟨rb, 3, none⟩ (.int .i64 (wrap64 (ca + 1)))).setCell ⟨rb, 5, none⟩ (.int .i64 (cr - 1))).setCell ⟨rb, 4, none⟩ (.int .i64 (-1)))).drew from by
          obtain ⟨h, hd, hca, hfa, hcr, hfb⟩ := HH.out
          have e1 : max (-1) (D.crashIn - 1) = cr - 1 := by omega
          have e2 : max (-1) (D.failIn - 1) = (-1) := by omega
          have hb := ((HH.out.1.box.set 3 (.int .i64 (wrap64 (ca + 1)))).set 5 (.int .i64 (cr - 1))).set 4 (.int .i64 (-1))
          have hk := ((kept_set w rb 3 (.int .i64 (wrap64 (ca + 1)))).trans (kept_set _ rb 5 (.int .i64 (cr - 1)))).trans (kept_set _ rb 4 (.int .i64 (-1)))
          have hR : RK ((((w.setCell ⟨rb, 3, none⟩ (.int .i64 (wrap64 (ca + 1)))).setCell ⟨rb, 5, none⟩ (.int .i64 (cr - 1))).setCell ⟨rb, 4, none⟩ (.int .i64 (-1)))).drew rb ao cp L (countedD D) := (h.turned (w' := (((w.setCell ⟨rb, 3, none⟩ (.int .i64 (wrap64 (ca + 1)))).setCell ⟨rb, 5, none⟩ (.int .i64 (cr - 1))).setCell ⟨rb, 4, none⟩ (.int .i64 (-1)))) (D' := countedD D) (by
            unfold boxR at hb ⊢
            unfold countedD
            simp only [e1, e2, ← hca, ← hfb, hd]
            rw [← hfa, ← hcr, ← hca, ← hfb] at hb
            first | exact hb | (simp only [hd] at hb; exact hb)
            ) hk rfl (by first | exact countedD_ok h.ok | exact down_ok (countedD_ok h.ok) true)).kept ((Kept.refl (fun _ => False) _).drew) (fun _ _ x => x)
          unfold beginD
          rw [hd, if_neg (by decide)]
          rw [if_neg (by omega)]
          rw [if_pos hfa.symm]
          rw [← hfb]
          exact ⟨rfl, hR, hk.drew⟩)
        go_enter Tryd.func103, Tryd.ntmps103
        go_upto_region 4 with fail
        go_region
        go_wp2
        go_ret
        exact HX.out
      · have p1 : (cr == 0) = false := beqF (by omega)
        have p2 : (0 : Int) ≤ cr := by omega
        have p3 : (fa == 0) = false := beqF (by omega)
        have p4 : (0 : Int) ≤ fa := by omega
        have HX := Lib.hid (show RBegan w rb ao cp L (beginD D) (.returned (.int .i64 0)) ((((w.setCell ⟨rb, 3, none⟩ (.int .i64 (wrap64 (ca + 1)))).setCell ⟨rb, 5, none⟩ (.int .i64 (cr - 1))).setCell ⟨rb, 4, none⟩ (.int .i64 (fa - 1)))).drew from by
          obtain ⟨h, hd, hca, hfa, hcr, hfb⟩ := HH.out
          have e1 : max (-1) (D.crashIn - 1) = cr - 1 := by omega
          have e2 : max (-1) (D.failIn - 1) = fa - 1 := by omega
          have hb := ((HH.out.1.box.set 3 (.int .i64 (wrap64 (ca + 1)))).set 5 (.int .i64 (cr - 1))).set 4 (.int .i64 (fa - 1))
          have hk := ((kept_set w rb 3 (.int .i64 (wrap64 (ca + 1)))).trans (kept_set _ rb 5 (.int .i64 (cr - 1)))).trans (kept_set _ rb 4 (.int .i64 (fa - 1)))
          have hR : RK ((((w.setCell ⟨rb, 3, none⟩ (.int .i64 (wrap64 (ca + 1)))).setCell ⟨rb, 5, none⟩ (.int .i64 (cr - 1))).setCell ⟨rb, 4, none⟩ (.int .i64 (fa - 1)))).drew rb ao cp L (countedD D) := (h.turned (w' := (((w.setCell ⟨rb, 3, none⟩ (.int .i64 (wrap64 (ca + 1)))).setCell ⟨rb, 5, none⟩ (.int .i64 (cr - 1))).setCell ⟨rb, 4, none⟩ (.int .i64 (fa - 1)))) (D' := countedD D) (by
            unfold boxR at hb ⊢
            unfold countedD
            simp only [e1, e2, ← hca, ← hfb, hd]
            rw [← hfa, ← hcr, ← hca, ← hfb] at hb
            first | exact hb | (simp only [hd] at hb; exact hb)
            ) hk rfl (by first | exact countedD_ok h.ok | exact down_ok (countedD_ok h.ok) true)).kept ((Kept.refl (fun _ => False) _).drew) (fun _ _ x => x)
          unfold beginD
          rw [hd, if_neg (by decide)]
          rw [if_neg (by omega)]
          rw [if_neg (by omega)]
          exact ⟨rfl, hR, hk.drew⟩)
        go_enter Tryd.func103, Tryd.ntmps103
        go_upto_region 4 with fail
        go_region
        go_wp2
        go_ret
        exact HX.out
theorem Tryd.infoR : (Tryd.prog.info? 125).map (fun i => (i.zero, i.size, i.bytes)) = some (some (.agg #[.string ByteArray.empty, .slice none 0 0, .int .i64 0]), 3, 48) := by kernel_rfl
theorem wpList_mineR {ops : Array Oper} {rest : List Oper} {o : Oper} {a : Act} {Q : Exit → Act → World → Prop} {w : World} (hgd : o.guard = none) (s x : Operand)
    (ho : o.op = .call { callee := .builtin .append, args := #[s, x], argTypes := #[81, 81] })
    (W : World) (v : Value) (L : List RF) (hv : a.eval s = v) (hm : MineG cellsR 3 125 W w v L)
    (y : Value) (M : List RF) (m : Nat) (hmm : M.length = m) (hy : a.eval x = y) (hs : Src Tryd.prog 3 81 y m (flatG cellsR M) w)
    (hl : L.length + m ≤ 1000000000)
    (h : ∀ v' w', MineG cellsR 3 125 W w' v' (L ++ M) → Kept (fun k => v.ownBlock = some k) w w' → (v'.ownBlock = v.ownBlock ∨ v'.ownBlock = some w.heap.size) → wpList Tryd.prog ops Q rest (a.put o.dst v') w') : wpList Tryd.prog ops Q (o :: rest) a w := by
  obtain ⟨iI, hiI, hzI0, hzI1, hzI2⟩ := info_parts Tryd.infoR
  exact wpList_mineG hgd s x ho Tryd.underlying81 hiI hzI0 hzI1 hzI2 rfl W v L hv hm y M m hmm hy hs hl (by omega) h
/-- The files of another name. -/
def noN (L : List RF) (s : ByteArray) : List RF := L.filter fun f => decide (f.nm ≠ s)
theorem noN_t (L : List RF) (s : ByteArray) : (noN L s).map RF.t = delM (L.map RF.t) s := by
  unfold noN delM
  rw [List.filter_map]
  rfl
theorem noN_succ {L : List RF} {i : Nat} {f : RF} (h : L[i]? = some f) (s : ByteArray) : noN (L.take (i + 1)) s = noN (L.take i) s ++ if f.nm = s then [] else [f] := by
  unfold noN
  rw [List.take_add_one, h, List.filter_append]
  congr 1
  simp only [Option.toList_some, List.filter_cons, List.filter_nil]
  by_cases e : f.nm = s <;> simp [e]
theorem noN_len (L : List RF) (s : ByteArray) (i : Nat) : (noN (L.take i) s).length ≤ L.length := Nat.le_trans (List.length_filter_le _ _) (by rw [List.length_take]; omega)
set_option maxRecDepth 100000 in
set_option maxHeartbeats 4000000 in
theorem refWithout_any (rb : Nat) (ao : Option Addr) (cp : Nat) (L : List RF) (D : DA) (s : ByteArray) (w : World) (h : RK w rb ao cp L D) :
    Calls Tryd.prog 95 #[.pointer (some ⟨rb, 0, none⟩), .string s] w fun e w' => ∃ v, e = .returned v ∧ MineG cellsR 3 125 w w' v (noN L s) := by
  have c0 := h.c.1
  have hct := h.ok.count
  have hlen := h.len
  obtain ⟨n, hn⟩ : ∃ n, n = L.length := ⟨_, rfl⟩
  rw [← hn] at c0
  have HH := Lib.hid h
  have HB := Lib.hid (show n ≤ 4096 ∧ n = L.length from ⟨by omega, hn⟩)
  have HC0 := Lib.hid c0
  clear h hct hlen hn c0
  go_enter Tryd.func95, Tryd.ntmps95
  go_wp2
  go_loopg [5, 6] n (fun g s5 s6 wr => ∃ i : Nat, i ≤ n ∧ g = n - i ∧ s6 = .int .i64 i ∧ MineG cellsR 3 125 w wr s5 (noN (L.take i) s))
  case atStart => exact ⟨0, Nat.zero_le _, rfl, rfl, MineG.nil (Kept.refl _ _)⟩
  case round =>
    obtain ⟨i, hin, rfl, rfl, hm⟩ := hrel
    obtain ⟨pa, pc, hpv⟩ := hm.slice
    subst hpv
    have c0 := hm.kept.cell HC0.out (fun x => x)
    have HM := Lib.hid hm
    by_cases hd : i < n
    · have hdi : (i : Int) < (n : Int) := by omega
      have hdd : decide (i < n) = true := decide_eq_true hd
      have HI := Lib.hid hd
      obtain ⟨f, hf⟩ : ∃ f, L[i]? = some f := ⟨_, List.getElem?_eq_getElem (by have := HB.out; omega)⟩
      obtain ⟨gg, oo, hga, hgc⟩ := (HH.out.row.kept hm.kept) (by have := HB.out; omega)
      subst hga
      have g0 := hgc i f hf 0 (.string f.nm) rfl
      have g1 := hgc i f hf 1 (.slice f.a f.b.length f.c) rfl
      have g2 := hgc i f hf 2 (.int .i64 (f.s : Int)) rfl
      rw [Nat.add_zero] at g0
      have wi : IntKind.i64.wrap ((i : Int) + 1) = ((i + 1 : Nat) : Int) := by have := HB.out; rw [IntWalk.i64_in _ ⟨by omega, by omega⟩]; omega
      have hsu := noN_succ hf s
      have HSR := Lib.hid (src_oneG (P := Tryd.prog) cfR Tryd.underlying81 wr f)
      have HMA := Lib.hid (hm.on ((Kept.refl _ wr).alloc (.cells (cellsR f).toArray 125)))
      obtain ⟨Pm, hPm⟩ : ∃ Pm, Pm = noN (L.take i) s := ⟨_, rfl⟩
      have hpl : Pm.length ≤ 4096 := by have := noN_len L s i; have := HB.out; rw [hPm]; omega
      rw [← hPm] at hsu HM HMA ⊢
      have HPL := Lib.hid hpl
      obtain ⟨nm, fa, fc, fb, fs⟩ := f
      simp only at g0 g1 g2 hsu
      unfold cellsR at HSR HMA
      simp only at HSR HMA
      obtain ⟨nn, hnn⟩ : ∃ nn, nn = fb.length := ⟨_, rfl⟩
      rw [← hnn] at g1 HSR HMA
      have HNN := Lib.hid hnn
      by_cases he : nm = s
      · have q1 : (nm.toList == s.toList) = true := by rw [he]; exact beq_self_eq_true _
        rw [if_pos he, List.append_nil] at hsu
        have HR := Lib.hid hsu
        clear hf hgc hd hin he hm hsu hPm hpl hnn
        go_wp2
        go_roundg (n - (i + 1))
        case measure => have := HI.out; omega
        case rel => exact ⟨i + 1, HI.out, rfl, rfl, by rw [HR.out]; exact HM.out⟩
      · have q1 : (nm.toList == s.toList) = false := toList_ne he
        rw [if_neg he] at hsu
        have HR := Lib.hid hsu
        clear hf hgc hd hin he hm hsu hPm hpl hnn
        go_wp2_with (at_builtin; refine wpList_mineR rfl (.tmp 26) (.tmp 34) rfl w _ Pm rfl HMA.out _ [⟨nm, fa, fc, fb, fs⟩] 1 rfl rfl (by rw [flatG_one']; unfold cellsR; dsimp only; rw [← HNN.out]; exact HSR.out) (by have := HPL.out; omega) ?_)
        intro v' w8 hm8 _ _
        rw [← HR.out] at hm8
        have HM8 := Lib.hid hm8
        clear hm8
        go_wp2
        go_roundg (n - (i + 1))
        case measure => have := HI.out; omega
        case rel => exact ⟨i + 1, HI.out, rfl, rfl, HM8.out⟩
    · have hdi : ¬ (i : Int) < (n : Int) := by omega
      have hdd : decide (i < n) = false := decide_eq_false hd
      have HE : Hid (L.take i = L) := Lib.hid (List.take_of_length_le (by have := HB.out; omega))
      clear hd hin hm
      go_wp2
      go_ret
      exact ⟨_, rfl, by have := HM.out; rw [HE.out] at this ⊢; exact this⟩
end Go.Proofs.YtficodklidaheaaDoor
/- Rows cut at a place; a thing put at its place in a rising row. -/
namespace Go.Proofs.YtficodklidaheaaDoor
open Go.RowKit

theorem run_cutHr {P : Program} {t E : TypeId} {i : TypeInfo} (ht : P.underlying t = some (.slice E)) (hi : P.info? E = some i) (a : Option Addr) (len cap h : Nat) (hhi : h ≤ cap) (w : World) :
    (Instr.slice t (.slice a len cap) none (some (.int .i64 (h : Int))) none).run P w = .ok (.slice a h cap) w := by
  have he : P.elem t = E := by simp [Program.elem, ht]
  rw [run_slice_h w t a len cap (by rw [he]; exact ht) .i64 h (by omega) (by omega), he]
  have e : (a.map fun x => x.add 0) = a := by cases a <;> simp [add_zero']
  simp [sizeOf, typeInfo, hi, sliced, e]
theorem run_cutHrAt {P : Program} {t E : TypeId} {i : TypeInfo} (ht : P.underlying t = some (.slice E)) (hi : P.info? E = some i) (a : Option Addr) (len cap h : Nat) (hhi : h ≤ cap) (w : World) :
    (Instr.sliceAt t (.slice a len cap) none (some (.int .i64 (h : Int))) none).run P w = .ok (.slice a h cap) w := by
  have he : P.elem t = E := by simp [Program.elem, ht]
  rw [run_sliceAt_slice w t _ _ _ _ (by rw [he]; exact ht)]
  exact run_cutHr ht hi a len cap h hhi w
theorem run_cutLr {P : Program} {t E : TypeId} {i : TypeInfo} {s : Nat} (ht : P.underlying t = some (.slice E)) (hi : P.info? E = some i) (hs : i.size = s) (a : Option Addr) (len cap lo : Nat) (hlo : lo ≤ len) (w : World) :
    (Instr.slice t (.slice a len cap) (some (.int .i64 (lo : Int))) none none).run P w = .ok (.slice (if cap = lo then a else a.map (·.add (lo * s))) (len - lo) (cap - lo)) w := by
  have he : P.elem t = E := by simp [Program.elem, ht]
  rw [run_slice_l w t a len cap (by rw [he]; exact ht) .i64 lo (by omega) (by omega), he]
  simp [sizeOf, typeInfo, hi, hs, sliced]
theorem run_cutLrAt {P : Program} {t E : TypeId} {i : TypeInfo} {s : Nat} (ht : P.underlying t = some (.slice E)) (hi : P.info? E = some i) (hs : i.size = s) (a : Option Addr) (len cap lo : Nat) (hlo : lo ≤ len) (w : World) :
    (Instr.sliceAt t (.slice a len cap) (some (.int .i64 (lo : Int))) none none).run P w = .ok (.slice (if cap = lo then a else a.map (·.add (lo * s))) (len - lo) (cap - lo)) w := by
  have he : P.elem t = E := by simp [Program.elem, ht]
  rw [run_sliceAt_slice w t _ _ _ _ (by rw [he]; exact ht)]
  exact run_cutLr ht hi hs a len cap lo hlo w
theorem GAt.dropS {α : Type} {c : α → List Value} {sz : Nat} {W : World} {ao : Option Addr} {L : List α} {cap : Nat} (h : GAt c sz W ao L) (lo : Nat) (hc : L.length ≤ cap) : GAt c sz W (if cap = lo then ao else ao.map (·.add (lo * sz))) (L.drop lo) := by
  intro h0
  rw [List.length_drop] at h0
  obtain ⟨g, o, rfl, hr⟩ := h (by omega)
  rw [if_neg (by omega)]
  refine ⟨g, o + lo * sz, ?_, fun i p hi j u hu => ?_⟩
  · show some ((⟨g, o, none⟩ : Addr).add (lo * sz)) = _
    have : ((⟨g, o, none⟩ : Addr).add (lo * sz)) = ⟨g, o + lo * sz, none⟩ := by unfold Addr.add; split <;> simp_all
    rw [this]
  · rw [List.getElem?_drop] at hi
    have := hr (lo + i) p hi j u hu
    rw [Nat.add_mul] at this
    rw [show o + lo * sz + i * sz + j = o + (lo * sz + i * sz) + j by omega]
    exact this
theorem asc_get {α : Type} {X : List (ByteArray × α)} (h : Asc X) {i j : Nat} {p q : ByteArray × α} (hij : i < j) (hp : X[i]? = some p) (hq : X[j]? = some q) : ltN p.1 q.1 = true := by
  obtain ⟨h1, h2⟩ := List.getElem?_eq_some_iff.1 hp
  obtain ⟨h3, h4⟩ := List.getElem?_eq_some_iff.1 hq
  have := List.pairwise_iff_getElem.1 h i j h1 h3 hij
  rw [h2, h4] at this
  exact this
theorem put_split {α : Type} {X : List (ByteArray × α)} (hA : Asc X) {s : ByteArray} (f : α) (hn : ∀ p ∈ X, p.1 ≠ s) {k : Nat} (h1 : ∀ j p, k ≤ j → X[j]? = some p → ltN s p.1 = true) (h2 : k = 0 ∨ ∃ p, X[k - 1]? = some p ∧ ltN s p.1 = false) :
    X.take k ++ (s, f) :: X.drop k = putS X s f := by
  have hlow : ∀ p ∈ X.take k, ltN p.1 s = true := by
    intro p hp
    obtain ⟨j, hj⟩ := List.mem_iff_getElem?.1 hp
    rw [List.getElem?_take] at hj
    split at hj
    · rename_i hjk
      rcases h2 with h2 | ⟨q, hq, hqs⟩
      · omega
      · have hqn := ltN_tri (hn q (List.mem_of_getElem? hq)).symm hqs
        by_cases e : j = k - 1
        · rw [e, hq] at hj
          injection hj with hj
          rw [← hj]
          exact hqn
        · exact ltN_trans (asc_get hA (by omega) hj hq) hqn
    · cases hj
  have hhigh : ∀ p ∈ X.drop k, ltN s p.1 = true := by
    intro p hp
    obtain ⟨j, hj⟩ := List.mem_iff_getElem?.1 hp
    rw [List.getElem?_drop] at hj
    exact h1 (k + j) p (by omega) hj
  refine asc_ext ?_ (putS_asc hA s f) (fun t => ?_)
  · unfold Asc
    rw [List.pairwise_append]
    refine ⟨List.Pairwise.sublist (List.take_sublist _ _) hA, List.pairwise_cons.2 ⟨hhigh, List.Pairwise.sublist (List.drop_sublist _ _) hA⟩, fun p hp q hq => ?_⟩
    rcases List.mem_cons.1 hq with e | e
    · rw [e]; exact hlow p hp
    · exact ltN_trans (hlow p hp) (hhigh q e)
  · rw [getM_put, getM_append, getM]
    by_cases e : s = t
    · rw [if_pos e, if_pos e, ← e, getM_none.2 (fun p hp => hn p (List.mem_of_mem_take hp))]
      rfl
    · rw [if_neg e, if_neg e, ← getM_append, List.take_append_drop]
theorem putS_delS {α : Type} {L : List (ByteArray × α)} (hA : Asc L) (s : ByteArray) (f : α) : putS (delM L s) s f = putS L s f := by
  refine asc_ext (putS_asc (delM_asc hA s) s f) (putS_asc hA s f) (fun t => ?_)
  rw [getM_put, getM_put, getM_del]
  by_cases e : s = t
  · rw [if_pos e, if_pos e]
  · rw [if_neg e, if_neg e, if_neg e]
end Go.Proofs.YtficodklidaheaaDoor
