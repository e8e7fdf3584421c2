/- Histograms more coarsely, plainly: twice, what is right of it, its total. -/
import Derived.Test.YtbjpcddnjndjlaaK3
namespace Go.Proofs.Ytbjpcddnjndjlaa

theorem downH_total (h : HistV) (b : Nat) : (downH h b).total = h.total := by
  unfold HistV.total downH sumN
  simp only [downL_sum]
theorem downH_err (h : HistV) (b : Nat) (he : h.err = 0) (hb : (b : Int) ≤ h.sc + 10) : (downH h b).err = 0 := by
  obtain ⟨h1, h2, h3, h4⟩ := err_light he
  have t := downH_total h b
  unfold HistV.err
  rw [t]
  have e1 : (downH h b).sc = h.sc - (b : Int) := rfl
  have e2 : sideE (downH h b).po (downH h b).pl = 0 := sideE_down _ _ _ h2
  have e3 : sideE (downH h b).no (downH h b).nl = 0 := sideE_down _ _ _ h3
  rw [e1, if_neg (by omega), e2, e3, if_neg (by omega), if_neg (by omega), if_neg (by omega)]
theorem downH_two (h : HistV) (a b : Nat) : downH (downH h a) b = downH h (a + b) := by
  unfold downH
  simp only [downL_two', downO_two]
  congr 1
  omega
theorem downE_zero {h : HistV} {b : Int} (e : downE h b = 0) : h.err = 0 ∧ 0 ≤ b ∧ b ≤ h.sc + 10 := by
  unfold downE at e
  by_cases h1 : h.err ≠ 0
  · rw [if_pos h1] at e; exact absurd e h1
  · rw [if_neg h1] at e
    by_cases h2 : b < 0 ∨ h.sc + 10 < b
    · rw [if_pos h2] at e; omega
    · exact ⟨by omega, by omega, by omega⟩
theorem downE_mk {h : HistV} {b : Int} (h1 : h.err = 0) (h2 : 0 ≤ b) (h3 : b ≤ h.sc + 10) : downE h b = 0 := by
  unfold downE
  rw [if_neg (by omega), if_neg (by omega)]
theorem downR_ok {h : HistV} {b : Int} (e : downE h b = 0) : downR h b = downH h b.toNat := by unfold downR; rw [if_pos e]
theorem twice_bad (h : HistV) (a b : Int) (ha : 0 ≤ a) (hb : 0 ≤ b) (e : downE h a ≠ 0 ∨ downE (downR h a) b ≠ 0) : downE h (a + b) ≠ 0 := by
  intro hz
  obtain ⟨z1, z2, z3⟩ := downE_zero hz
  have e1 : downE h a = 0 := downE_mk z1 ha (by omega)
  rcases e with e | e
  · exact e e1
  · apply e
    rw [downR_ok e1]
    refine downE_mk (downH_err h _ z1 (by omega)) hb ?_
    show b ≤ h.sc - ((a.toNat : Nat) : Int) + 10
    omega
theorem twice_ok (h : HistV) (a b : Int) (e1 : downE h a = 0) (e2 : downE (downR h a) b = 0) : downE h (a + b) = 0 ∧ downR (downR h a) b = downR h (a + b) ∧ (downR h (a + b)).err = 0 ∧ (downR h (a + b)).total = h.total := by
  obtain ⟨a1, a2, a3⟩ := downE_zero e1
  have r1 := downR_ok e1
  have r2 := downR_ok e2
  obtain ⟨b1, b2, b3⟩ := downE_zero e2
  rw [r1] at b3
  have b3' : b ≤ h.sc - ((a.toNat : Nat) : Int) + 10 := b3
  have e3 : downE h (a + b) = 0 := downE_mk a1 (by omega) (by omega)
  refine ⟨e3, ?_, ?_, ?_⟩
  · rw [r2, r1, downR_ok e3, downH_two]
    congr 1
    omega
  · rw [downR_ok e3]; exact downH_err h _ a1 (by omega)
  · rw [downR_ok e3]; exact downH_total h _
theorem downR_ok' (h : HistV) (b : Int) (hok : h.ok) : (downR h b).ok := by
  unfold downR
  by_cases e : downE h b = 0
  · rw [if_pos e]
    obtain ⟨e1, e2, e3⟩ := downE_zero e
    have he := downH_err h b.toNat e1 (by omega)
    obtain ⟨h1, h2, h3, h4⟩ := err_light he
    have t := total_parts h4
    have s1 := (side_range h2).1
    have s2 := (side_range h3).1
    exact ⟨by omega, hok.ze, by omega, fun x hx => by have := mem_sum hx; omega, by omega, fun x hx => by have := mem_sum hx; omega⟩
  · rw [if_neg e]
    unfold zeroH
    exact ⟨by simp, by simp, by simp, by simp, by simp, by simp⟩
theorem atN_le (o i : Int) (l : List Nat) : atN o l i ≤ l.sum := by
  unfold atN
  split
  · exact getD_sum _ _
  · omega
theorem atN_pair (o k : Int) (l : List Nat) : atN o l (2 * k) + atN o l (2 * k + 1) ≤ l.sum := by
  rw [← atN_down, ← downL_sum o l 1]
  exact atN_le _ _ _
theorem one_bad {h : HistV} (e : downE h 1 ≠ 0) (he : h.err = 0) : h.sc = -10 := by
  obtain ⟨h1, _⟩ := err_light he
  unfold downE at e
  rw [if_neg (by omega)] at e
  by_cases h2 : (1 : Int) < 0 ∨ h.sc + 10 < 1
  · omega
  · rw [if_neg h2] at e; exact absurd rfl e
theorem one_ok {h : HistV} (e : downE h 1 = 0) (k : Int) : atN (downR h 1).po (downR h 1).pl k = atN h.po h.pl (2 * k) + atN h.po h.pl (2 * k + 1) ∧ atN (downR h 1).no (downR h 1).nl k = atN h.no h.nl (2 * k) + atN h.no h.nl (2 * k + 1) := by
  rw [downR_ok e]
  exact ⟨atN_down _ _ _, atN_down _ _ _⟩
theorem least_nat (p : Nat → Prop) : ∀ n, p n → ∃ b, b ≤ n ∧ p b ∧ ∀ a, a < b → ¬ p a := by
  intro n
  induction n using Nat.strongRecOn with
  | _ n ih =>
    intro h
    by_cases e : ∃ a, a < n ∧ p a
    · obtain ⟨a, h1, h2⟩ := e
      obtain ⟨b, h3, h4, h5⟩ := ih a h1 h2
      exact ⟨b, by omega, h4, h5⟩
    · exact ⟨n, Nat.le_refl _, h, fun a ha hp => e ⟨a, ha, hp⟩⟩
theorem downH_zero (h : HistV) (he : h.err = 0) : downH h 0 = h := by
  obtain ⟨h1, h2, h3, h4⟩ := err_light he
  unfold downH
  rw [downL_by0, downL_by0, downO_by0 _ _ (sideE_zero h2).2.1, downO_by0 _ _ (sideE_zero h3).2.1]
  simp
theorem nil_at (w : World) : HistAt w zeroH (.slice none 0 0) (.slice none 0 0) := ⟨⟨none, 0, rfl, fun _ => rfl, fun a e => by cases e⟩, ⟨none, 0, rfl, fun _ => rfl, fun a e => by cases e⟩⟩
end Go.Proofs.Ytbjpcddnjndjlaa
