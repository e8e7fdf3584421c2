/- Layer 32 is awake; patterns one behind the other, plainly. -/
import Derived.Test.YtjbjfdmdicfjfaaDD
namespace Go.Proofs.Ytjbjfdmdicfjfaa
open Go.RowKit
attribute [local go_sem ↓] Go.wp_at_zero Go.wp_at_succ

theorem aw_comp1 : compS { data := #[97, 42, 98, 63] } = .good [⟨0, 97, noF⟩, ⟨3, 0, noF⟩, ⟨0, 98, noF⟩, ⟨1, 0, noF⟩] := by kernel_rfl
theorem aw_comp2 : compS { data := #[91, 98, 45, 97, 93] } = .bad 1 3 := by kernel_rfl
theorem aw_match1 : mt [⟨0, 97, noF⟩, ⟨3, 0, noF⟩, ⟨0, 98, noF⟩, ⟨1, 0, noF⟩] (bl { data := #[97, 120, 120, 98, 99] }) = true := by
  have e : bl { data := #[97, 120, 120, 98, 99] } = [97, 120, 120, 98, 99] := by decide +kernel
  rw [e]
  simp [mt, Pc.hold]
theorem aw_match2 : mt [⟨0, 97, noF⟩, ⟨3, 0, noF⟩, ⟨0, 98, noF⟩, ⟨1, 0, noF⟩] (bl { data := #[97, 98] }) = false := by
  have e : bl { data := #[97, 98] } = [97, 98] := by decide +kernel
  rw [e]
  simp [mt, Pc.hold]
theorem aw_quote : strL (quoteL (bl { data := #[97, 42] })) = { data := #[97, 92, 42] } := by decide +kernel

set_option maxHeartbeats 4000000 in
theorem awake32_any (w : World) : Calls Try.prog 6 #[] w fun e w' => e = .returned (.bool true) ∧ Kept (fun _ => False) w w' := by
  have C1 := Lib.hid (fun w => compile_any { data := #[97, 42, 98, 63] } w (by decide))
  have C2 := Lib.hid (fun w => compile_any { data := #[91, 98, 45, 97, 93] } w (by decide))
  have Q1 := Lib.hid (fun w => quote_any { data := #[97, 42] } w (by decide))
  rw [aw_comp1] at C1
  rw [aw_comp2] at C2
  rw [aw_quote] at Q1
  go_enter Try.func6, Try.ntmps6
  go_wp2_with fail
  refine (C1.out _).mono ?_
  rintro e w1 ⟨k1, gb, L, hL, hG, hge, rfl⟩
  have HL := Lib.hid hL
  have HG := Lib.hid hG
  have K1 := Lib.hid k1
  clear hL hG k1 hge
  go_wp2_with fail
  refine (C2.out _).mono ?_
  rintro e w2 ⟨k2, rfl, _⟩
  have K2 := Lib.hid k2
  have M1 := Lib.hid (fun w (k : Kept (fun _ => False) w1 w) => match_any gb _ { data := #[97, 120, 120, 98, 99] } L w (HG.out.kept k) (by decide))
  have M2 := Lib.hid (fun w (k : Kept (fun _ => False) w1 w) => match_any gb _ { data := #[97, 98] } L w (HG.out.kept k) (by decide))
  rw [HL.out, aw_match1] at M1
  rw [HL.out, aw_match2] at M2
  clear k2
  go_wp2_with fail
  refine (M1.out _ K2.out).mono ?_
  rintro e w3 ⟨rfl, k3⟩
  have K3 := Lib.hid (K2.out.trans k3)
  clear k3
  go_wp2_with fail
  refine (M2.out _ K3.out).mono ?_
  rintro e w4 ⟨rfl, k4⟩
  have K4 := Lib.hid (K3.out.trans k4)
  clear k4
  go_wp2_with fail
  refine (Q1.out _).mono ?_
  rintro e w5 ⟨rfl, k5⟩
  have K5 := Lib.hid (K4.out.trans k5)
  clear k5
  go_wp2
  go_ret
  exact ⟨rfl, K1.out.trans K5.out⟩

/-- A piece's first bytes tell it. -/
theorem byteL_app {l m : List Nat} (h : (byteL l).2 ≤ l.length) (h0 : l ≠ []) : byteL (l ++ m) = byteL l := by
  have hp : 0 < l.length := List.length_pos_iff.2 h0
  have g0 : (l ++ m).getD 0 0 = l.getD 0 0 := by rw [List.getD_eq_getElem?_getD, List.getElem?_append_left hp, List.getD_eq_getElem?_getD]
  rw [byteL_2] at h
  unfold byteL
  rw [g0]
  by_cases hc : l.getD 0 0 = 92
  · rw [if_pos hc] at h
    rw [if_pos hc, if_pos hc, List.length_append, if_neg (by omega), if_neg (by omega), List.getD_eq_getElem?_getD, List.getElem?_append_left (by omega), List.getD_eq_getElem?_getD]
  · rw [if_neg hc, if_neg hc]
theorem endL_app : ∀ {l : List Nat} {e : Nat} (m : List Nat), endL l = some e → endL (l ++ m) = some e
  | [], e, m, h => by simp [endL] at h
  | c :: t, e, m, h => by
    unfold endL at h
    rw [List.cons_append, endL.eq_def]
    dsimp only
    split at h
    · rename_i hc; rw [if_pos hc]; exact h
    · rename_i hc
      rw [if_neg hc]
      split at h
      · rename_i hc2
        rw [if_pos hc2]
        cases t with
        | nil => cases h
        | cons d u =>
          dsimp only at h
          rw [List.cons_append]
          cases hu : endL u with
          | none => rw [hu] at h; cases h
          | some x =>
            rw [hu] at h
            show (endL (u ++ m)).map (· + 2) = some e
            rw [endL_app m hu]; exact h
      · rename_i hc2
        rw [if_neg hc2]
        cases hu : endL t with
        | none => rw [hu] at h; cases h
        | some x =>
          rw [hu] at h
          rw [endL_app m hu]; exact h
theorem getD_app {l m : List Nat} {i : Nat} (h : i < l.length) : (l ++ m).getD i 0 = l.getD i 0 := by rw [List.getD_eq_getElem?_getD, List.getElem?_append_left h, List.getD_eq_getElem?_getD]
theorem nextL_app {l : List Nat} {p : Pc} {n : Nat} (m : List Nat) (h0 : l ≠ []) (h : nextL l = .good p n) : nextL (l ++ m) = .good p n := by
  have hp : 0 < l.length := List.length_pos_iff.2 h0
  have hn := nextL_pos h0 h
  unfold nextL at h ⊢
  rw [getD_app hp]
  split at h
  · rename_i hc; rw [if_pos hc]; exact h
  rename_i hc
  rw [if_neg hc]
  split at h
  · rename_i hc2; rw [if_pos hc2]; exact h
  rename_i hc2
  rw [if_neg hc2]
  split at h
  · rename_i hc3
    rw [if_pos hc3]
    unfold setL at h ⊢
    cases he : endL (l.drop 1) with
    | none => rw [he] at h; cases h
    | some e =>
      rw [he] at h
      have hlt := endL_lt he
      rw [List.length_drop] at hlt
      rw [List.drop_append_of_le_length (by omega), endL_app m he]
      dsimp only at h ⊢
      have hs : setFrom (l ++ m) = setFrom l := by unfold setFrom; rw [getD_app (by omega)]
      rw [hs, List.take_append_of_le_length (by omega), getD_app (by omega)]
      exact h
  · rename_i hc3
    rw [if_neg hc3]
    split at h
    · cases h
    · rename_i hb
      rw [byteL_app (by omega) h0, if_neg (by rw [List.length_append]; omega)]
      exact h
theorem compA_app : ∀ (k : Nat) (l m : List Nat) (o : Nat) (A : List Pc), l.length ≤ k → compA l o = .good A → compA (l ++ m) o = (compA m (o + l.length)).pre A := by
  intro k
  induction k with
  | zero =>
    intro l m o A hl h
    obtain rfl : l = [] := List.length_eq_zero_iff.1 (by omega)
    rw [compA_nil] at h
    cases h
    rw [List.nil_append, Rs.pre_nil]; rfl
  | succ k ih =>
    intro l m o A hl h
    by_cases h0 : l = []
    · subst h0
      rw [compA_nil] at h
      cases h
      rw [List.nil_append, Rs.pre_nil]; rfl
    · have h1 : l ++ m ≠ [] := by simp [h0]
      cases hx : nextL l with
      | bad a e => rw [compA_bad o h0 hx] at h; cases h
      | good p n =>
        have hn := nextL_pos h0 hx
        rw [compA_step o h0 hx] at h
        rw [compA_step o h1 (nextL_app m h0 hx), List.drop_append_of_le_length (by omega)]
        cases hr : compA (l.drop n) (o + n) with
        | bad a e => rw [hr] at h; cases h
        | good B =>
          rw [hr] at h
          have hA : A = [p] ++ B := by cases h; rfl
          rw [ih (l.drop n) m (o + n) B (by rw [List.length_drop]; omega) hr, List.length_drop, Rs.pre_pre, hA, show o + n + (l.length - n) = o + l.length by omega]
theorem compA_shift : ∀ (k : Nat) (l : List Nat) (o o' : Nat) (A : List Pc), l.length ≤ k → compA l o = .good A → compA l o' = .good A := by
  intro k
  induction k with
  | zero =>
    intro l o o' A hl h
    obtain rfl : l = [] := List.length_eq_zero_iff.1 (by omega)
    exact h
  | succ k ih =>
    intro l o o' A hl h
    by_cases h0 : l = []
    · subst h0; exact h
    · cases hx : nextL l with
      | bad a e => rw [compA_bad o h0 hx] at h; cases h
      | good p n =>
        have hn := nextL_pos h0 hx
        have hp : 0 < l.length := List.length_pos_iff.2 h0
        rw [compA_step o h0 hx] at h
        rw [compA_step o' h0 hx]
        cases hr : compA (l.drop n) (o + n) with
        | bad a e => rw [hr] at h; cases h
        | good B =>
          rw [hr] at h
          rw [ih (l.drop n) (o + n) (o' + n) B (by rw [List.length_drop]; omega) hr]
          exact h
theorem compS_join {a b : ByteArray} {A B : List Pc} (ha : compS a = .good A) (hb : compS b = .good B) (hl : a.size + b.size ≤ 64) : compS (a ++ b) = .good (A ++ B) := by
  unfold compS at ha hb ⊢
  rw [if_neg (by omega)] at ha hb
  have hsz : (a ++ b).size = a.size + b.size := by simp
  rw [if_neg (by omega), bl_append, compA_app _ _ _ _ A (Nat.le_refl _) ha, compA_shift _ _ 0 _ B (Nat.le_refl _) hb]
  rfl
/-- Does the one pattern match a text's first bytes, and the other one the rest, at a place below this one? -/
def partsB (A B : List Pc) (l : List Nat) (i : Nat) : Bool := (List.range i).any fun j => mt A (l.take j) && mt B (l.drop j)
theorem partsB_succ (A B : List Pc) (l : List Nat) (i : Nat) : partsB A B l (i + 1) = (partsB A B l i || (mt A (l.take i) && mt B (l.drop i))) := by
  unfold partsB
  rw [List.range_succ, List.any_append]; simp
theorem partsB_all (A B : List Pc) (l : List Nat) : mt (A ++ B) l = partsB A B l (l.length + 1) := by
  rw [Bool.eq_iff_iff, mt_append]
  unfold partsB
  rw [List.any_eq_true]
  constructor
  · rintro ⟨j, hj, h1, h2⟩
    exact ⟨j, List.mem_range.2 (by omega), by rw [h1, h2]; rfl⟩
  · rintro ⟨j, hj, h⟩
    rw [Bool.and_eq_true] at h
    exact ⟨j, by have := List.mem_range.1 hj; omega, h⟩
end Go.Proofs.Ytjbjfdmdicfjfaa
