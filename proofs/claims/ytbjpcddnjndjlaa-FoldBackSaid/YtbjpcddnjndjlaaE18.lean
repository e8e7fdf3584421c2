/- Two histograms put together and taken from each other, plainly. -/
import Derived.Test.YtbjpcddnjndjlaaE17
namespace Go.Proofs.Ytbjpcddnjndjlaa

theorem mgE_zero {a b : HistV} (h : mgE a b = 0) : levE a b = 0 ∧ (levX a b).total + (levY a b).total < 18446744073709551616 ∧ spN (levX a b).po (levX a b).pl (levY a b).po (levY a b).pl ≤ 160 ∧ spN (levX a b).no (levX a b).nl (levY a b).no (levY a b).nl ≤ 160 := by
  unfold mgE at h
  by_cases h1 : levE a b ≠ 0
  · rw [if_pos h1] at h; exact absurd h h1
  · rw [if_neg h1] at h
    by_cases h2 : 18446744073709551616 ≤ (levX a b).total + (levY a b).total
    · rw [if_pos h2] at h; cases h
    · rw [if_neg h2] at h
      by_cases h3 : spN (levX a b).po (levX a b).pl (levY a b).po (levY a b).pl ≤ 160 ∧ spN (levX a b).no (levX a b).nl (levY a b).no (levY a b).nl ≤ 160
      · exact ⟨by omega, by omega, h3.1, h3.2⟩
      · rw [if_neg h3] at h; cases h
theorem mgE_mk {a b : HistV} (h1 : levE a b = 0) (h2 : (levX a b).total + (levY a b).total < 18446744073709551616) (h3 : spN (levX a b).po (levX a b).pl (levY a b).po (levY a b).pl ≤ 160) (h4 : spN (levX a b).no (levX a b).nl (levY a b).no (levY a b).nl ≤ 160) : mgE a b = 0 := by
  unfold mgE
  rw [if_neg (by omega), if_neg (by omega), if_pos ⟨h3, h4⟩]
theorem mgH2_eq {X Y : HistV} (h3 : spN X.po X.pl Y.po Y.pl ≤ 160) (h4 : spN X.no X.nl Y.no Y.nl ≤ 160) : mgH2 X Y = ⟨X.sc, X.ze + Y.ze, spF X.po X.pl Y.po Y.pl, mgL X.po X.pl Y.po Y.pl, spF X.no X.nl Y.no Y.nl, mgL X.no X.nl Y.no Y.nl⟩ := by
  unfold mgH2 mgO mgR
  rw [if_pos h3, if_pos h4, if_pos h3, if_pos h4]
theorem lev_sc {a b : HistV} (h : levE a b = 0) (oka : a.ok) (okb : b.ok) : (levX a b).sc = levS a b ∧ (levY a b).sc = levS a b := by
  obtain ⟨h1, h2, _⟩ := lev_right h oka okb
  obtain ⟨g1, g2, g3, g4, g5⟩ := lev_good h1 h2
  have d1 := downE_zero g2
  have d2 := downE_zero g3
  rw [g4, g5, downR_ok g2, downR_ok g3]
  exact ⟨by show a.sc - (((a.sc - levS a b).toNat : Nat) : Int) = _; omega, by show b.sc - (((b.sc - levS a b).toNat : Nat) : Int) = _; omega⟩
theorem lev_comm {a b : HistV} (h : levE a b = 0) (oka : a.ok) (okb : b.ok) : levE b a = 0 ∧ levX b a = levY a b ∧ levY b a = levX a b := by
  obtain ⟨h1, h2, _⟩ := lev_right h oka okb
  obtain ⟨g1, _, _, _, _⟩ := lev_good h2 h1
  have hs : levS b a = levS a b := by unfold levS; split <;> split <;> omega
  refine ⟨g1, ?_, ?_⟩
  · unfold levX levY; rw [if_pos g1, if_pos h, hs]
  · unfold levX levY; rw [if_pos g1, if_pos h, hs]
theorem mg_right {a b : HistV} (h : mgE a b = 0) (oka : a.ok) (okb : b.ok) : (mgH a b).err = 0 ∧ (mgH a b).total = a.total + b.total ∧ (mgH a b).sc = levS a b ∧ (mgH a b).ok := by
  obtain ⟨h1, h2, h3, h4⟩ := mgE_zero h
  obtain ⟨e1, e2, ex, ey, okx, oky, tx, ty⟩ := lev_right h1 oka okb
  obtain ⟨s1, s2⟩ := lev_sc h1 oka okb
  obtain ⟨x1, x2, x3, x4⟩ := err_light ex
  obtain ⟨y1, y2, y3, y4⟩ := err_light ey
  have hR : mgH a b = mgH2 (levX a b) (levY a b) := by unfold mgH; rw [if_pos h]
  rw [hR, mgH2_eq h3 h4]
  have ht : HistV.total ⟨(levX a b).sc, (levX a b).ze + (levY a b).ze, spF (levX a b).po (levX a b).pl (levY a b).po (levY a b).pl, mgL (levX a b).po (levX a b).pl (levY a b).po (levY a b).pl, spF (levX a b).no (levX a b).nl (levY a b).no (levY a b).nl, mgL (levX a b).no (levX a b).nl (levY a b).no (levY a b).nl⟩ = a.total + b.total := by
    rw [← tx, ← ty]
    unfold HistV.total sumN
    simp only [mgL_sum]
    omega
  have r1 := mgL_right _ _ _ _ x2 y2 h3
  have r2 := mgL_right _ _ _ _ x3 y3 h4
  refine ⟨?_, ht, s1, ?_⟩
  · unfold HistV.err
    rw [ht]
    simp only [r1, r2]
    rw [if_neg (by omega), if_neg (by omega), if_neg (by omega), if_neg (by omega)]
  · have q1 := (side_range r1).1
    have q2 := (side_range r2).1
    have z1 := okx.ze
    have z2 : (levX a b).total = (levX a b).ze + (levX a b).pl.sum + (levX a b).nl.sum := rfl
    have z3 : (levY a b).total = (levY a b).ze + (levY a b).pl.sum + (levY a b).nl.sum := rfl
    refine ⟨by simp only; omega, by simp only; omega, by simp only; omega, fun x hx => ?_, by simp only; omega, fun x hx => ?_⟩
    · have := mem_sum hx
      simp only [mgL_sum] at this
      omega
    · have := mem_sum hx
      simp only [mgL_sum] at this
      omega
theorem sub_back (o1 : Int) (l1 : List Nat) (o2 : Int) (l2 : List Nat) (h1 : sideE o1 l1 = 0) : SubRes (spF o1 l1 o2 l2) (mgL o1 l1 o2 l2) o2 l2 true o1 l1 := by
  obtain ⟨o, l, t⟩ := trim_exists (spF o1 l1 o2 l2) (lsL (spF o1 l1 o2 l2) (mgL o1 l1 o2 l2) o2 l2)
  obtain ⟨e1, e2⟩ := t.right (fun i => ls_back o1 l1 o2 l2 i) h1
  rw [e1, e2] at t
  exact .inl ⟨rfl, has_mg o1 l1 o2 l2, t⟩
theorem fold_back {a b : HistV} (h : mgE a b = 0) (oka : a.ok) (okb : b.ok) : SubH (mgH a b) b (levX a b) 0 ∧ mgE b a = 0 ∧ mgH b a = mgH a b := by
  obtain ⟨h1, h2, h3, h4⟩ := mgE_zero h
  obtain ⟨e1, e2, ex, ey, okx, oky, tx, ty⟩ := lev_right h1 oka okb
  obtain ⟨s1, s2⟩ := lev_sc h1 oka okb
  obtain ⟨x1, x2, x3, x4⟩ := err_light ex
  obtain ⟨m1, m2, m3, m4⟩ := mg_right h oka okb
  obtain ⟨c1, c2, c3⟩ := lev_comm h1 oka okb
  have hR : mgH a b = mgH2 (levX a b) (levY a b) := by unfold mgH; rw [if_pos h]
  have hS : levS (mgH a b) b = levS a b := by
    have : levS a b ≤ b.sc := by unfold levS; split <;> omega
    unfold levS at m3 this ⊢
    rw [m3, if_pos this]
  have hL : levE (mgH a b) b = 0 := by unfold levE; rw [if_neg (by omega)]; exact e2
  have hX : levX (mgH a b) b = mgH a b := by
    unfold levX; rw [if_pos hL, hS, m3, Int.sub_self]; exact downH_zero _ m1
  have hY : levY (mgH a b) b = levY a b := by
    unfold levY; rw [if_pos hL, if_pos h1, hS]
  refine ⟨?_, ?_, ?_⟩
  · refine .inr ⟨hL, true, (levX a b).po, (levX a b).pl, true, (levX a b).no, (levX a b).nl, ?_, ?_, .inl ⟨rfl, rfl, ?_, rfl, ?_⟩⟩
    · rw [hX, hY, hR, mgH2_eq h3 h4]; exact sub_back _ _ _ _ x2
    · rw [hX, hY, hR, mgH2_eq h3 h4]; exact sub_back _ _ _ _ x3
    · rw [hX, hY, hR, mgH2_eq h3 h4]; simp only; omega
    · rw [hX, hY, hR, mgH2_eq h3 h4]
      simp only [Nat.add_sub_cancel]
  · refine mgE_mk c1 ?_ ?_ ?_
    · rw [c2, c3]; omega
    · rw [c2, c3, ← (sp_comm _ _ _ _).2]; exact h3
    · rw [c2, c3, ← (sp_comm _ _ _ _).2]; exact h4
  · have g1 : spN (levY a b).po (levY a b).pl (levX a b).po (levX a b).pl ≤ 160 := by rw [← (sp_comm _ _ _ _).2]; exact h3
    have g2 : spN (levY a b).no (levY a b).nl (levX a b).no (levX a b).nl ≤ 160 := by rw [← (sp_comm _ _ _ _).2]; exact h4
    have hE : mgE b a = 0 := mgE_mk c1 (by rw [c2, c3]; omega) (by rw [c2, c3]; exact g1) (by rw [c2, c3]; exact g2)
    rw [hR]
    unfold mgH
    rw [if_pos hE, c2, c3, mgH2_eq h3 h4, mgH2_eq g1 g2, s1, s2, Nat.add_comm, (sp_comm (levY a b).po _ _ _).1, (sp_comm (levY a b).no _ _ _).1, mgL_comm (levY a b).po, mgL_comm (levY a b).no]
end Go.Proofs.Ytbjpcddnjndjlaa
