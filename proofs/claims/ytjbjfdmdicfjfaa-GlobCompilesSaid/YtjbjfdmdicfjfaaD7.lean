/- Layer 32, plainly: where a set's things begin and end. -/
import Derived.Test.YtjbjfdmdicfjfaaD6
namespace Go.Proofs.Ytjbjfdmdicfjfaa

theorem byteL_2 (l : List Nat) : (byteL l).2 = if l.getD 0 0 = 92 then 2 else 1 := by unfold byteL; split <;> (try split) <;> rfl
theorem getD_drop (l : List Nat) (i j : Nat) : (l.drop i).getD j 0 = l.getD (i + j) 0 := by rw [List.getD_eq_getElem?_getD, List.getElem?_drop, List.getD_eq_getElem?_getD]
theorem getD_inside {l : List Nat} {E i j : Nat} (h : i + j < E) : ((l.take E).drop i).getD j 0 = l.getD (i + j) 0 := by
  rw [List.getD_eq_getElem?_getD, List.getElem?_drop, List.getElem?_take, if_pos h, List.getD_eq_getElem?_getD]
theorem step_at {l : List Nat} {i E : Nat} (h : endL (l.drop i) = some (E - i)) (hi : i < E) : i + (byteL (l.drop i)).2 ≤ E ∧ endL (l.drop (i + (byteL (l.drop i)).2)) = some (E - (i + (byteL (l.drop i)).2)) ∧ E < l.length := by
  have hlt := endL_lt h
  rw [List.length_drop] at hlt
  have hne : l.getD i 0 ≠ 93 := fun hc => by
    rw [endL_hit (by omega) hc] at h
    injection h with h
    omega
  have hg := endL_go (l := l) (i := i) (by omega) hne
  rw [h] at hg
  cases hx : endL (l.drop (i + (byteL (l.drop i)).2)) with
  | none => rw [hx] at hg; cases hg
  | some x =>
    rw [hx] at hg
    injection hg with hg
    simp only at hg
    exact ⟨by omega, by rw [show x = E - (i + (byteL (l.drop i)).2) by omega], by omega⟩
theorem inside_byte {l : List Nat} {i E : Nat} (hi : i < E) : (byteL ((l.take E).drop i)).2 = (byteL (l.drop i)).2 := by
  rw [byteL_2, byteL_2, getD_inside (by omega), getD_drop]
theorem inside_len {l : List Nat} {i E : Nat} (hE : E ≤ l.length) : ((l.take E).drop i).length = E - i := by rw [List.length_drop, List.length_take, Nat.min_eq_left hE]
theorem align_step {l : List Nat} {i E a b n : Nat} (h : endL (l.drop i) = some (E - i)) (hi : i < E) (ht : thingL ((l.take E).drop i) = some (a, b, n)) : i + n ≤ E ∧ endL (l.drop (i + n)) = some (E - (i + n)) := by
  obtain ⟨h1, h2, h3⟩ := step_at h hi
  have hlen := inside_len (l := l) (i := i) (E := E) (by omega)
  have hb := inside_byte (l := l) (i := i) (E := E) hi
  unfold thingL at ht
  rw [hb, hlen] at ht
  split at ht
  · rename_i hc
    rw [getD_inside (by omega), Nat.add_zero] at hc
    have hk : (byteL (l.drop i)).2 = 1 := by rw [byteL_2, getD_drop, Nat.add_zero, if_neg (by omega)]
    split at ht
    · cases ht
      rw [hk] at h1 h2
      exact ⟨h1, h2⟩
    · cases ht
  · split at ht
    · cases ht
      exact ⟨h1, h2⟩
    · rename_i hn
      have hn1 : ¬ (((l.take E).drop i).drop (byteL (l.drop i)).2).length < 2 := fun e => hn (.inl e)
      have hn2 : (((l.take E).drop i).drop (byteL (l.drop i)).2).getD 0 0 = 45 := Classical.byContradiction fun e => hn (.inr (.inl e))
      split at ht
      · cases ht
        generalize (byteL (l.drop i)).2 = k at *
        rw [List.drop_drop] at hn1 hn2
        rw [inside_len (by omega)] at hn1
        rw [getD_inside (by omega), Nat.add_zero] at hn2
        obtain ⟨g1, g2, _⟩ := step_at h2 (by omega)
        have hk : (byteL (l.drop (i + k))).2 = 1 := by rw [byteL_2, getD_drop, Nat.add_zero, if_neg (by omega)]
        rw [hk] at g1 g2
        obtain ⟨f1, f2, _⟩ := step_at g2 (by omega)
        rw [List.drop_drop, List.drop_drop, show i + (k + 1) = i + k + 1 by omega, inside_byte (by omega)]
        exact ⟨by omega, by rw [show i + (k + 1 + (byteL (l.drop (i + k + 1))).2) = i + k + 1 + (byteL (l.drop (i + k + 1))).2 by omega]; exact f2⟩
      · cases ht
theorem byteL_lt {l : List Nat} (h : ∀ x ∈ l, x < 256) : (byteL l).1 < 256 := by
  have key : ∀ j, l.getD j 0 < 256 := fun j => by
    rw [List.getD_eq_getElem?_getD]
    rcases e : l[j]? with _ | y
    · simp
    · exact h y (List.mem_of_getElem? e)
  unfold byteL
  split
  · split
    · simp
    · exact key 1
  · exact key 0
theorem thing_lt {l : List Nat} {a b n : Nat} (h : ∀ x ∈ l, x < 256) (ht : thingL l = some (a, b, n)) : a ≤ b ∧ b < 256 := by
  unfold thingL at ht
  split at ht
  · split at ht
    · cases ht; omega
    · cases ht
  · split at ht
    · cases ht
      exact ⟨Nat.le_refl _, byteL_lt h⟩
    · split at ht
      · rename_i hab
        cases ht
        exact ⟨hab, byteL_lt fun x hx => h x (List.mem_of_mem_drop (List.mem_of_mem_drop hx))⟩
      · cases ht
theorem nextL_bad {l : List Nat} {a e : Nat} (h : nextL l = .bad a e) : e = 2 ∨ e = 3 := by
  unfold nextL at h
  split at h
  · cases h
  split at h
  · cases h
  split at h
  · unfold setL at h
    split at h
    · cases h; exact .inl rfl
    · split at h
      · cases h; exact .inr rfl
      · split at h
        · cases h; exact .inr rfl
        · cases h
  split at h
  · cases h; exact .inl rfl
  · cases h
/-- What next answers. -/
def NxTo (r : Nx) (e : Ending) : Prop := ∃ (P : PcR) (x y : Nat), e = .returned (.tuple #[.agg (cellsPc P).toArray, .int .i64 (x : Int), .int .i64 (y : Int)]) ∧ match r with | .bad a ee => x = a ∧ y = ee | .good p n => P.Ok ∧ P.p = p ∧ x = n ∧ y = 0
end Go.Proofs.Ytjbjfdmdicfjfaa
