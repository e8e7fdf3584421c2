/- Layer 16: two histograms together, plainly. -/
import Derived.Test.YtiiibhdohlpodaaJe6
namespace Go.Proofs.Ytiiibhdohlpodaa
open Go.RowKit

/-- Has a histogram so few buckets? -/
def fitsB (h : HistV) (most : Int) : Bool := decide ((h.pl.length : Int) ≤ most) && decide ((h.nl.length : Int) ≤ most)
/-- As fine as so many buckets allow, from the k-th step down on. -/
def togK (X Y : HistV) (most : Int) : Nat → Nat → HistV × Bool
  | 0, _ => (zeroH, false)
  | f + 1, k => if mgE (downR X k) (downR Y k) = 4 then (zeroH, false) else
      if mgE (downR X k) (downR Y k) = 0 ∧ fitsB (mgH (downR X k) (downR Y k)) most = true then (mgH (downR X k) (downR Y k), true) else togK X Y most f (k + 1)
def togF (X : HistV) : Nat := (X.sc + 11).toNat
/-- Two histograms together. -/
def togH (a b : HistV) (most : Int) : HistV × Bool := if levE a b = 0 then togK (levX a b) (levY a b) most (togF (levX a b)) 0 else (zeroH, false)
theorem err_sc {h : HistV} (e : h.err = 0) : -10 ≤ h.sc ∧ h.sc ≤ 20 := (err_light e).1
theorem down_at {X : HistV} (he : X.err = 0) {k : Nat} (hk : (k : Int) ≤ X.sc + 10) : downE X k = 0 ∧ downR X k = downH X k ∧ (downR X k).err = 0 ∧ (downR X k).sc = X.sc - k := by
  have h0 : downE X k = 0 := downE_mk he (by omega) hk
  have h1 : downR X k = downH X k := by rw [downR_ok h0]; rfl
  exact ⟨h0, h1, by rw [h1]; exact downH_err X k he hk, by rw [h1]; rfl⟩
theorem down_next {X : HistV} (he : X.err = 0) {k : Nat} (hk : ((k + 1 : Nat) : Int) ≤ X.sc + 10) : downE (downR X k) 1 = 0 ∧ downR (downR X k) 1 = downR X ((k + 1 : Nat) : Int) := by
  obtain ⟨h0, _, h2, h3⟩ := down_at he (k := k) (by omega)
  have h4 : downE (downR X k) 1 = 0 := downE_mk h2 (by omega) (by rw [h3]; omega)
  exact ⟨h4, (twice_ok X k 1 h0 h4).2.1⟩
theorem down_first {X : HistV} (he : X.err = 0) : downR X ((0 : Nat) : Int) = X := by
  have := down_at he (k := 0) (by have := err_sc he; omega)
  rw [this.2.1]
  exact downH_zero X he
/-- What is told of two histograms together. -/
theorem togK_right {X Y : HistV} {most : Int} (hx : X.err = 0) (hy : Y.err = 0) (ox : X.ok) (oy : Y.ok) (hs : Y.sc = X.sc) (f : Nat) : ∀ (k : Nat) (R : HistV), (k : Int) + f ≤ X.sc + 11 → togK X Y most f k = (R, true) →
    R.err = 0 ∧ R.total = X.total + Y.total ∧ fitsB R most = true ∧ R.ok := by
  induction f with
  | zero => intro k R _ h; simp [togK] at h
  | succ f ih =>
    intro k R hk h
    rw [togK] at h
    by_cases h4 : mgE (downR X k) (downR Y k) = 4
    · rw [if_pos h4] at h; simp at h
    rw [if_neg h4] at h
    by_cases h0 : mgE (downR X k) (downR Y k) = 0 ∧ fitsB (mgH (downR X k) (downR Y k)) most = true
    · rw [if_pos h0] at h
      injection h with h _
      subst h
      obtain ⟨g1, g2, g3, g4⟩ := mg_right h0.1 (downR_ok' X k ox) (downR_ok' Y k oy)
      refine ⟨g1, ?_, h0.2, g4⟩
      have ex := down_at hx (k := k) (by omega)
      have ey := down_at hy (k := k) (by omega)
      have tx : (downR X k).total = X.total := by
        have e2 : downE (downR X k) 0 = 0 := downE_mk ex.2.2.1 (by omega) (by have := err_sc ex.2.2.1; omega)
        have := twice_ok X k 0 ex.1 e2
        rw [Int.add_zero] at this
        exact this.2.2.2
      have ty : (downR Y k).total = Y.total := by
        have e2 : downE (downR Y k) 0 = 0 := downE_mk ey.2.2.1 (by omega) (by have := err_sc ey.2.2.1; omega)
        have := twice_ok Y k 0 ey.1 e2
        rw [Int.add_zero] at this
        exact this.2.2.2
      rw [g2, tx, ty]
    · rw [if_neg h0] at h
      exact ih (k + 1) R (by omega) h
theorem togH_right {a b : HistV} {most : Int} {R : HistV} (oa : a.ok) (ob : b.ok) (h : togH a b most = (R, true)) : a.err = 0 ∧ b.err = 0 ∧ R.err = 0 ∧ R.total = a.total + b.total ∧ fitsB R most = true ∧ R.ok := by
  unfold togH at h
  by_cases hl : levE a b = 0
  · rw [if_pos hl] at h
    obtain ⟨r1, r2, r3, r4, r5, r6, r7, r8⟩ := lev_right hl oa ob
    obtain ⟨s1, s2⟩ := lev_sc hl oa ob
    have hsc := err_sc r3
    obtain ⟨t1, t2, t3, t4⟩ := togK_right r3 r4 r5 r6 (by rw [s1, s2]) (togF (levX a b)) 0 R (by unfold togF; omega) h
    exact ⟨r1, r2, t1, by rw [t2, r7, r8], t3, t4⟩
  · rw [if_neg hl] at h
    simp at h
end Go.Proofs.Ytiiibhdohlpodaa
