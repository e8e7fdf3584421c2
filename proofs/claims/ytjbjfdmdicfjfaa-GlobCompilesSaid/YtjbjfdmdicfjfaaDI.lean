/- The document's layer 32: set (written by tools/gen_XDI.py). -/
import Derived.Test.YtjbjfdmdicfjfaaDH
namespace Go.Proofs.Ytjbjfdmdicfjfaa
open Go.RowKit
attribute [local go_sem ↓] Go.wp_at_zero Go.wp_at_succ

theorem set_none {B : List Nat} {fr a : Nat} (ha : a = fr + setFrom (B.drop fr)) (h : endL (B.drop a) = none) : setL (B.drop fr) = .bad 0 2 := by
  have key : endL ((B.drop fr).drop 1) = none := by
    by_cases h33 : (B.drop fr).getD 1 0 = 33
    · have hs : setFrom (B.drop fr) = 2 := by unfold setFrom; rw [if_pos h33]
      rw [hs] at ha
      have hl : 1 < (B.drop fr).length := by
        rcases Nat.lt_or_ge 1 (B.drop fr).length with h1 | h1
        · exact h1
        · rw [List.getD_eq_getElem?_getD, List.getElem?_eq_none h1] at h33; simp at h33
      rw [drop_cons hl, h33, endL.eq_def]
      dsimp only
      rw [if_neg (by omega), if_neg (by omega), List.drop_drop, ← ha, h]; rfl
    · have hs : setFrom (B.drop fr) = 1 := by unfold setFrom; rw [if_neg h33]
      rw [List.drop_drop, ← hs, ← ha]; exact h
  unfold setL
  rw [key]
theorem set_some {B : List Nat} {fr a x : Nat} (ha : a = fr + setFrom (B.drop fr)) (h : endL (B.drop a) = some x) :
    setL (B.drop fr) = if x = 0 then .bad 0 3 else match thingsA ((B.take (a + x)).drop a) noF (a - fr) with | .bad o => .bad o 3 | .good f => .good ⟨2, 0, if (B.drop fr).getD 1 0 = 33 then fun z => !f z else f⟩ (a + x - fr + 1) := by
  have key : endL ((B.drop fr).drop 1) = some (a + x - fr - 1) ∧ 1 ≤ setFrom (B.drop fr) := by
    by_cases h33 : (B.drop fr).getD 1 0 = 33
    · have hs : setFrom (B.drop fr) = 2 := by unfold setFrom; rw [if_pos h33]
      rw [hs] at ha ⊢
      have hl : 1 < (B.drop fr).length := by
        rcases Nat.lt_or_ge 1 (B.drop fr).length with h1 | h1
        · exact h1
        · rw [List.getD_eq_getElem?_getD, List.getElem?_eq_none h1] at h33; simp at h33
      refine ⟨?_, by omega⟩
      rw [drop_cons hl, h33, endL.eq_def]
      dsimp only
      rw [if_neg (by omega), if_neg (by omega), List.drop_drop, ← ha, h]
      show some (x + 1) = _
      congr 1; omega
    · have hs : setFrom (B.drop fr) = 1 := by unfold setFrom; rw [if_neg h33]
      refine ⟨?_, by omega⟩
      rw [List.drop_drop, ← hs, ← ha, h]
      congr 1; omega
  unfold setL
  rw [key.1]
  dsimp only
  have h1 := key.2
  by_cases hx : x = 0
  · rw [if_pos (by omega), if_pos hx]
  · rw [if_neg (by omega), if_neg hx]
    have e1 : ((B.drop fr).take (1 + (a + x - fr - 1))).drop (setFrom (B.drop fr)) = (B.take (a + x)).drop a := by
      rw [List.take_drop, List.drop_drop, ← ha, show fr + (1 + (a + x - fr - 1)) = a + x by omega]
    rw [e1, show a - fr = setFrom (B.drop fr) by omega, show 1 + (a + x - fr - 1) + 1 = a + x - fr + 1 by omega]
    generalize thingsA ((B.take (a + x)).drop a) noF (setFrom (B.drop fr)) = R
    cases R <;> rfl
/-- A thing of a set's, where it lies. -/
theorem thing_dash {B : List Nat} {j T : Nat} (hj : j < T) (hT : T ≤ B.length) (h : B.getD j 0 = 45) : thingL ((B.take T).drop j) = if j + 1 = T then some (45, 45, 1) else none := by
  unfold thingL
  rw [getD_inside (by omega), Nat.add_zero, if_pos h, inside_len hT]
  by_cases h1 : j + 1 = T
  · rw [if_pos h1, if_pos (by omega)]
  · rw [if_neg h1, if_neg (by omega)]
theorem thing_else {B : List Nat} {j T : Nat} (hj : j < T) (hT : T < B.length) (h : B.getD j 0 ≠ 45) (he : endL (B.drop j) = some (T - j)) :
    thingL ((B.take T).drop j) = if j + (byteL (B.drop j)).2 + 1 < T ∧ B.getD (j + (byteL (B.drop j)).2) 0 = 45 ∧ B.getD (j + (byteL (B.drop j)).2 + 1) 0 ≠ 45 then
      (if (byteL (B.drop j)).1 ≤ (byteL (B.drop (j + (byteL (B.drop j)).2 + 1))).1 then some ((byteL (B.drop j)).1, (byteL (B.drop (j + (byteL (B.drop j)).2 + 1))).1, (byteL (B.drop j)).2 + 1 + (byteL (B.drop (j + (byteL (B.drop j)).2 + 1))).2) else none)
      else some ((byteL (B.drop j)).1, (byteL (B.drop j)).1, (byteL (B.drop j)).2) := by
  have hst := step_at he hj
  have hbf := inside_full hst.1 (by omega)
  unfold thingL
  rw [hbf, getD_inside (by omega), Nat.add_zero, if_neg h]
  generalize hk : byteL (B.drop j) = ck at *
  obtain ⟨c, k⟩ := ck
  simp only at hst ⊢
  rw [List.drop_drop, inside_len (by omega)]
  by_cases h1 : j + k + 1 < T
  · rw [getD_inside (by omega), getD_inside (by omega), Nat.add_zero]
    by_cases h2 : B.getD (j + k) 0 = 45
    · by_cases h3 : B.getD (j + k + 1) 0 = 45
      · rw [if_pos (.inr (.inr h3)), if_neg (fun e => e.2.2 h3)]
      · rw [if_neg (by intro e; rcases e with e | e | e; omega; exact e h2; exact h3 e), if_pos (show j + k + 1 < T ∧ B.getD (j + k) 0 = 45 ∧ B.getD (j + k + 1) 0 ≠ 45 from ⟨h1, h2, h3⟩)]
        have g1 := step_at hst.2.1 (by omega)
        have hk1 : (byteL (B.drop (j + k))).2 = 1 := by rw [byteL_2, getD_drop, Nat.add_zero, if_neg (by omega)]
        rw [hk1] at g1
        have g2 := step_at g1.2.1 (by omega)
        rw [List.drop_drop, inside_full (by omega) (by omega)]
    · rw [if_pos (.inr (.inl h2)), if_neg (fun e => h2 e.2.1)]
  · rw [if_pos (.inl (by omega)), if_neg (fun e => h1 e.1)]
/-- What set leaves. -/
def SetTo (w : World) (fr : Nat) (r : Nx) (e : Ending) (w' : World) : Prop :=
  Kept (fun _ => False) w w' ∧ match r with
  | .bad o ee => e = .returned (.agg #[.slice none 0 0, .int .i64 ((fr + o : Nat) : Int), .int .i64 (ee : Int)]) ∧ ee ≠ 0
  | .good p n => ∃ gl gs cp, e = .returned (.agg #[.slice (some ⟨gl, 0, none⟩) 1 1, .int .i64 ((fr + n : Nat) : Int), .int .i64 0]) ∧ GAt cellsRP 4 w' (some ⟨gl, 0, none⟩) [⟨p, some ⟨gs, 0, none⟩, 256, cp⟩] ∧ InAt w' ⟨p, some ⟨gs, 0, none⟩, 256, cp⟩
theorem got32_info (x y z : Value) : (Try.prog.info? 29).map (·.size) = some (#[x, y, z] : Array Value).size := by
  have e : (Try.prog.info? 29).map (·.size) = some 3 := by kernel_rfl
  rw [e]; rfl
theorem all3 {x y z : Value} (h1 : x.oneCell' = true) (h2 : y.oneCell' = true) (h3 : z.oneCell' = true) : (#[x, y, z] : Array Value).all (·.oneCell') = true := by
  rw [Array.all_eq_true_iff_forall_mem]; intro v hv; simp at hv; rcases hv with rfl | rfl | rfl <;> assumption
theorem flip_step {f : Nat → Bool} {i : Nat} (hi : i < 256) : (((boF fun z => !f z).take i ++ (boF f).drop i).set i (!f i)) = (boF fun z => !f z).take (i + 1) ++ (boF f).drop (i + 1) := by
  have h1 := boF_length f
  have h2 := boF_length fun z => !f z
  rw [List.set_append_right _ _ (by rw [List.length_take]; omega), List.length_take, Nat.min_eq_left (by omega), Nat.sub_self, List.drop_eq_getElem_cons (by omega), List.set_cons_zero, List.take_add_one, List.append_assoc]
  congr 1
  simp [boF, List.getElem?_range hi]
theorem flip_at {f : Nat → Bool} {i : Nat} (hi : i < 256) : ((boF fun z => !f z).take i ++ (boF f).drop i)[i]? = some (f i) := by
  have h1 := boF_length f
  have h2 := boF_length fun z => !f z
  rw [List.getElem?_append_right (by rw [List.length_take]; omega), List.length_take, Nat.min_eq_left (by omega), Nat.sub_self, List.getElem?_drop, Nat.add_zero]
  simp [boF, List.getElem?_range hi]
end Go.Proofs.Ytjbjfdmdicfjfaa
