/- Layer 9: what is put together is right (written by tools/slice.py from E18 E17). -/
import Derived.Test.YtiiibhdohlpodaaJe5
import Derived.WalkKit
import Derived.WalkLawsBesides
import Derived.WalkSpells
import Derived.Deep.AppendSrc
import Derived.Deep.AppendLies
import Derived.ProofKit
import Derived.OpenShut
import Derived.WideShapes
import Derived.Lib.Hide
import Derived.Laws.Rows
import Derived.Deep.RegionHeld3
import Derived.Deep.RegionWith
import Derived.Deep.DrawnRows
import Derived.Deep.QuietTactic
import Derived.BigQuiet
import Derived.Outline
import Derived.Deep.DeepCutAuto
import Derived.Deep.LoopGhost
import Derived.Deep.RegionLaw
import Derived.Deep.CutBlock
import Derived.StillTailTactics
import Derived.Test.YtiiibhdohlpodaaRows
import Derived.Laws.Externs
import Derived.Lib.SmallJoins
import Derived.Laws.OwnMore
import Derived.OrdersHeld
import Derived.StillTail
import Derived.RegionTactic
import Derived.BigRegion

namespace Go.Proofs.Ytiiibhdohlpodaa
theorem mgE_zero {a b : HistV} (h : mgE a b = 0) : levE a b = 0 ∧ (levX a b).total + (levY a b).total < 18446744073709551616 ∧ spN (levX a b).po (levX a b).pl (levY a b).po (levY a b).pl ≤ 160 ∧ spN (levX a b).no (levX a b).nl (levY a b).no (levY a b).nl ≤ 160 := by
  unfold mgE at h
  by_cases h1 : levE a b ≠ 0
  · rw [if_pos h1] at h; exact absurd h h1
  · rw [if_neg h1] at h
    by_cases h2 : 18446744073709551616 ≤ (levX a b).total + (levY a b).total
    · rw [if_pos h2] at h; cases h
    · rw [if_neg h2] at h
      by_cases h3 : spN (levX a b).po (levX a b).pl (levY a b).po (levY a b).pl ≤ 160 ∧ spN (levX a b).no (levX a b).nl (levY a b).no (levY a b).nl ≤ 160
      · exact ⟨by omega, by omega, h3.1, h3.2⟩
      · rw [if_neg h3] at h; cases h
theorem mgH2_eq {X Y : HistV} (h3 : spN X.po X.pl Y.po Y.pl ≤ 160) (h4 : spN X.no X.nl Y.no Y.nl ≤ 160) : mgH2 X Y = ⟨X.sc, X.ze + Y.ze, spF X.po X.pl Y.po Y.pl, mgL X.po X.pl Y.po Y.pl, spF X.no X.nl Y.no Y.nl, mgL X.no X.nl Y.no Y.nl⟩ := by
  unfold mgH2 mgO mgR
  rw [if_pos h3, if_pos h4, if_pos h3, if_pos h4]
theorem lev_sc {a b : HistV} (h : levE a b = 0) (oka : a.ok) (okb : b.ok) : (levX a b).sc = levS a b ∧ (levY a b).sc = levS a b := by
  obtain ⟨h1, h2, _⟩ := lev_right h oka okb
  obtain ⟨g1, g2, g3, g4, g5⟩ := lev_good h1 h2
  have d1 := downE_zero g2
  have d2 := downE_zero g3
  rw [g4, g5, downR_ok g2, downR_ok g3]
  exact ⟨by show a.sc - (((a.sc - levS a b).toNat : Nat) : Int) = _; omega, by show b.sc - (((b.sc - levS a b).toNat : Nat) : Int) = _; omega⟩
theorem mg_right {a b : HistV} (h : mgE a b = 0) (oka : a.ok) (okb : b.ok) : (mgH a b).err = 0 ∧ (mgH a b).total = a.total + b.total ∧ (mgH a b).sc = levS a b ∧ (mgH a b).ok := by
  obtain ⟨h1, h2, h3, h4⟩ := mgE_zero h
  obtain ⟨e1, e2, ex, ey, okx, oky, tx, ty⟩ := lev_right h1 oka okb
  obtain ⟨s1, s2⟩ := lev_sc h1 oka okb
  obtain ⟨x1, x2, x3, x4⟩ := err_light ex
  obtain ⟨y1, y2, y3, y4⟩ := err_light ey
  have hR : mgH a b = mgH2 (levX a b) (levY a b) := by unfold mgH; rw [if_pos h]
  rw [hR, mgH2_eq h3 h4]
  have ht : HistV.total ⟨(levX a b).sc, (levX a b).ze + (levY a b).ze, spF (levX a b).po (levX a b).pl (levY a b).po (levY a b).pl, mgL (levX a b).po (levX a b).pl (levY a b).po (levY a b).pl, spF (levX a b).no (levX a b).nl (levY a b).no (levY a b).nl, mgL (levX a b).no (levX a b).nl (levY a b).no (levY a b).nl⟩ = a.total + b.total := by
    rw [← tx, ← ty]
    unfold HistV.total sumN
    simp only [mgL_sum]
    omega
  have r1 := mgL_right _ _ _ _ x2 y2 h3
  have r2 := mgL_right _ _ _ _ x3 y3 h4
  refine ⟨?_, ht, s1, ?_⟩
  · unfold HistV.err
    rw [ht]
    simp only [r1, r2]
    rw [if_neg (by omega), if_neg (by omega), if_neg (by omega), if_neg (by omega)]
  · have q1 := (side_range r1).1
    have q2 := (side_range r2).1
    have z1 := okx.ze
    have z2 : (levX a b).total = (levX a b).ze + (levX a b).pl.sum + (levX a b).nl.sum := rfl
    have z3 : (levY a b).total = (levY a b).ze + (levY a b).pl.sum + (levY a b).nl.sum := rfl
    refine ⟨by simp only; omega, by simp only; omega, by simp only; omega, fun x hx => ?_, by simp only; omega, fun x hx => ?_⟩
    · have := mem_sum hx
      simp only [mgL_sum] at this
      omega
    · have := mem_sum hx
      simp only [mgL_sum] at this
      omega
end Go.Proofs.Ytiiibhdohlpodaa
