/- vary: what is put is taken as it was, and what is taken is put as it was. -/
import Derived.Test.YtaagjedkojlbpaaDoorV22
namespace Go.Proofs.YtaagjedkojlbpaaDoor
open Go.RowKit

theorem numB_bitsN_small (x n : Nat) (h : x < 2 ^ n) : numB (bitsN x n) = x := numB_bitsN x n h
theorem bitsN_numB_all (l : List Bool) : bitsN (numB l) l.length = l := by
  apply List.ext_getElem?
  intro i
  rw [bitsN_get]
  by_cases h : i < l.length
  · rw [if_pos h, numB_testBit, List.getElem?_eq_getElem h]
    have e : l.length - 1 - (l.length - 1 - i) = i := by omega
    rw [e, List.getD_eq_getElem?_getD, List.getElem?_eq_getElem h]
    simp; omega
  · rw [if_neg h, List.getElem?_eq_none (by omega)]
theorem bitsN_numB_take (l : List Bool) (n : Nat) (h : n ≤ l.length) : bitsN (numB (l.take n)) n = l.take n := by
  have := bitsN_numB_all (l.take n)
  rw [List.length_take, Nat.min_eq_left h] at this
  exact this

theorem gotSmall_put (v : Nat) (rest : List Bool) (hv : v < 18446744073709551616) : gotSmall (smallB v ++ rest) = (v, (smallB v).length, 0) := by
  have hc := classN_le v
  have hfit := class_fits v hv
  have hlen : (smallB v).length = 2 + sizeC.getD (classN v) 0 := by unfold smallB; simp
  have h2 : numB ((smallB v ++ rest).take 2) = classN v := by
    unfold smallB
    rw [List.append_assoc, List.take_append, List.take_of_length_le (by simp), bitsN_length]
    simp only [Nat.sub_self, List.take_zero, List.append_nil]
    exact numB_bitsN_small _ 2 (by simpa using hc)
  have h3 : ((smallB v ++ rest).drop 2).take (sizeC.getD (classN v) 0) = bitsN v (sizeC.getD (classN v) 0) := by
    unfold smallB
    rw [List.append_assoc, List.drop_append, List.drop_eq_nil_of_le (by simp), bitsN_length]
    simp only [Nat.sub_self, List.drop_zero, List.nil_append]
    rw [List.take_append, List.take_of_length_le (by simp), bitsN_length]
    simp
  unfold gotSmall
  rw [h2, h3, numB_bitsN_small v _ hfit, List.length_append, hlen, if_neg (by omega), if_neg (by omega), if_neg (fun e => e rfl)]
theorem smallB_got (l : List Bool) (h : (gotSmall l).2.2 = 0) : smallB (gotSmall l).1 = l.take (gotSmall l).2.1 := by
  rcases gotSmall_cases l with ⟨_, e⟩ | ⟨h2, c, S, hc, hc4, hS, _, ⟨_, e⟩ | ⟨h3, x, hx, _, ⟨_, e⟩ | ⟨h4, e⟩⟩⟩
  · rw [e] at h; exact absurd h (by decide)
  · rw [e] at h; exact absurd h (by decide)
  · rw [e] at h; exact absurd h (by decide)
  · rw [e]
    show smallB x = l.take (2 + S)
    unfold smallB
    rw [h4, ← hS, hc, bitsN_numB_take l 2 h2, hx, bitsN_numB_take _ S (by rw [List.length_drop]; omega)]
    rw [List.take_add]

theorem onesK_rep (n k : Nat) (l : List Bool) (hk : k ≤ n) (h : k < n → l.head? ≠ some true ∧ True) : onesK n (List.replicate k true ++ l) = k := by
  induction k generalizing n with
  | zero =>
    cases n with
    | zero => rfl
    | succ n =>
      cases l with
      | nil => rfl
      | cons b l =>
        have := (h (by omega)).1
        cases b
        · simp [onesK]
        · simp at this
  | succ k ih =>
    cases n with
    | zero => omega
    | succ n =>
      rw [List.replicate_succ, List.cons_append]
      simp only [onesK, if_true]
      rw [ih n (by omega) (fun hh => h (by omega))]

theorem cutI_uN (d : Int) (hd : I64 d) : cutI (uN d % 2 ^ widthW.getD (wayN d) 0) (widthW.getD (wayN d) 0) = d := by
  have hw := wayN_cases d
  have hu := uN_u64 d
  rw [IntKind.wrap_u64] at hu
  obtain ⟨h0, h1⟩ := hd
  rcases hw with ⟨e, h⟩ | ⟨e, h⟩ | ⟨e, h⟩ | ⟨e, h⟩ | ⟨e, h⟩ <;> rw [e]
  · rw [h]; rfl
  all_goals
    simp only [widthW, List.getD_cons_zero, List.getD_cons_succ]
    generalize uN d = U at *
    unfold cutI
    rw [if_neg (by omega)]
    simp only [Nat.reducePow, Nat.reduceSub]
    split <;> omega

theorem gotStep_put (d : Int) (rest : List Bool) (hd : I64 d) : gotStep (stepB d ++ rest) = (d, (stepB d).length, 0) := by
  have hle := wayN_le d
  have hS := width_cases (wayN d) (by omega)
  have hK : onesK 4 (stepB d ++ rest) = wayN d := by
    unfold stepB
    rw [List.append_assoc, List.append_assoc]
    apply onesK_rep 4 _ _ hle
    intro h
    rw [if_pos h]
    simp
  have hcut := cutI_uN d hd
  have hA : (stepB d).length = (if wayN d < 4 then wayN d + 1 else 4) + widthW.getD (wayN d) 0 := by
    unfold stepB
    simp only [List.length_append, List.length_replicate, bitsN_length]
    by_cases h : wayN d < 4
    · rw [if_pos h, if_pos h]; simp
    · rw [if_neg h, if_neg h]; simp; omega
  have hdrop : ((stepB d ++ rest).drop (if wayN d < 4 then wayN d + 1 else 4)).take (widthW.getD (wayN d) 0) = bitsN (uN d) (widthW.getD (wayN d) 0) := by
    have hl : (List.replicate (wayN d) true ++ (if wayN d < 4 then [false] else [])).length = (if wayN d < 4 then wayN d + 1 else 4) := by
      rw [List.length_append, List.length_replicate]
      by_cases h : wayN d < 4
      · rw [if_pos h, if_pos h]; simp
      · rw [if_neg h, if_neg h]; simp; omega
    unfold stepB
    rw [List.append_assoc (List.replicate (wayN d) true ++ _), ← hl, List.drop_left, List.take_append, List.take_of_length_le (by simp), bitsN_length]
    simp
  unfold gotStep
  rw [hK, hdrop]
  have hnum : numB (bitsN (uN d) (widthW.getD (wayN d) 0)) = uN d % 2 ^ widthW.getD (wayN d) 0 := by
    rw [← bitsN_mod, numB_bitsN _ _ (Nat.mod_lt _ (Nat.two_pow_pos _))]
  rw [hnum, hcut, if_neg, if_neg, if_neg (fun e => e rfl), hA]
  · rw [List.length_append, hA]; omega
  · rintro ⟨h1, h2⟩
    rw [List.length_append, hA, if_pos h1] at h2; omega
theorem stepB_got (l : List Bool) (h : (gotStep l).2.2 = 0) : stepB (gotStep l).1 = l.take (gotStep l).2.1 := by
  obtain ⟨K, S, hK, hK4, hS, hSc, ⟨_, _, e⟩ | ⟨A, hA, hAl, ⟨_, e⟩ | ⟨h3, x, hx, hx64, ⟨_, e⟩ | ⟨h4, e⟩⟩⟩⟩ := gotStep_cases l
  · rw [e] at h; exact absurd h (by decide)
  · rw [e] at h; exact absurd h (by decide)
  · rw [e] at h; exact absurd h (by decide)
  · rw [e]
    show stepB (cutI x S) = l.take (A + S)
    have hxl : x < 2 ^ S := by rw [hx]; exact numB_two _ _
    have hu : bitsN (uN (cutI x S)) S = bitsN x S := by
      have h1 : uN (cutI x S) % 2 ^ S = x := by
        have hu := uN_u64 (cutI x S)
        rw [IntKind.wrap_u64] at hu
        generalize uN (cutI x S) = U at *
        unfold cutI at hu
        rcases hSc with rfl | rfl | rfl | rfl | rfl <;> simp only [Nat.reducePow, Nat.reduceSub, Nat.reduceEqDiff, if_true, if_false] at hu hxl ⊢ <;> (try split at hu) <;> omega
      rw [← bitsN_mod (uN (cutI x S)), h1]
    unfold stepB
    rw [h4, ← hS, hu, hx, bitsN_numB_take _ S (by rw [List.length_drop]; omega), List.take_add]
    congr 1
    have hrep : ∀ m, m ≤ K → l.take m = List.replicate m true := by
      intro m hm
      induction m with
      | zero => rfl
      | succ m ih =>
        have h5 := onesK_get 4 l m (by omega)
        have h6 := (onesK_le 4 l).2
        rw [take_snocB l m (by omega), ih (by omega), h5, List.replicate_succ']
    rcases hA with ⟨h5, rfl, h6⟩ | ⟨rfl, rfl⟩
    · rw [if_pos h5, take_snocB l K (by omega), hrep K (Nat.le_refl _), h6]
    · rw [if_neg (by omega), List.append_nil, hrep 4 (Nat.le_refl _)]

theorem zigN_I64 (a : Int) (h : I64 a) : zigN a < 18446744073709551616 := (zigN_eq a h.1 h.2).2
theorem zagI_zigN (a : Int) (h : I64 a) : zagI ((zigN a : Nat) : Int) = a := by rw [← (zigN_eq a h.1 h.2).1, zag_zig]
theorem zigN_zagI (v : Nat) : zigN (zagI (v : Int)) = v := by unfold zigN; rw [zig_zag _ (by omega)]; simp
theorem wrap64_I64 (a : Int) (h : I64 a) : wrap64 a = a := by obtain ⟨h0, h1⟩ := h; unfold wrap64; omega
theorem diffI_I64 (a b : Int) : I64 (diffI a b) := diffI_range a b

theorem nextGot_put (n last step v : Int) (rest : List Bool) (hv : I64 v) (hn : 0 ≤ n) (h0 : n = 0 → last = 0) : nextGot n last step (nextB n last step v ++ rest) = (v, (nextB n last step v).length, 0) := by
  unfold nextGot nextB
  by_cases z0 : n = 0
  · rw [if_pos (by omega), if_pos z0, gotSmall_put _ _ (zigN_I64 v hv)]
    simp only
    rw [zagI_zigN v hv, h0 z0, Int.zero_add, wrap64_I64 v hv]
  · by_cases z1 : n = 1
    · rw [if_pos (by omega), if_neg z0, if_pos z1, gotSmall_put _ _ (zigN_I64 _ (diffI_I64 _ _))]
      simp only
      rw [zagI_zigN _ (diffI_I64 _ _)]
      have : wrap64 (last + diffI v last) = v := by obtain ⟨a, b⟩ := hv; unfold diffI wrap64; omega
      rw [this]
    · rw [if_neg (by omega), if_neg z0, if_neg z1, gotStep_put _ _ (diffI_I64 _ _)]
      simp only
      have : wrap64 (wrap64 (last + step) + diffI (diffI v last) step) = v := by obtain ⟨a, b⟩ := hv; unfold diffI wrap64; omega
      rw [this]
theorem nextB_got (n last step : Int) (l : List Bool) (hn : 0 ≤ n) (h0 : n = 0 → last = 0) (h : (nextGot n last step l).2.2 = 0) : nextB n last step (nextGot n last step l).1 = l.take (nextGot n last step l).2.1 := by
  by_cases z : n < 2
  · have e : nextGot n last step l = (wrap64 (last + zagI (gotSmall l).1), (gotSmall l).2.1, (gotSmall l).2.2) := if_pos z
    rw [e] at h ⊢
    have hv := gotSmall_u64 l
    have hz := zagI_range ((gotSmall l).1 : Int) (by omega) (by omega)
    show nextB n last step (wrap64 (last + zagI (gotSmall l).1)) = l.take (gotSmall l).2.1
    rw [← smallB_got l h]
    unfold nextB
    by_cases z0 : n = 0
    · rw [if_pos z0, h0 z0, Int.zero_add, wrap64_I64 _ hz, zigN_zagI]
    · have z1 : n = 1 := by omega
      rw [if_neg z0, if_pos z1]
      have : diffI (wrap64 (last + zagI (gotSmall l).1)) last = zagI (gotSmall l).1 := by unfold diffI wrap64; omega
      rw [this, zigN_zagI]
  · have e : nextGot n last step l = (wrap64 (wrap64 (last + step) + (gotStep l).1), (gotStep l).2.1, (gotStep l).2.2) := if_neg z
    rw [e] at h ⊢
    show nextB n last step (wrap64 (wrap64 (last + step) + (gotStep l).1)) = l.take (gotStep l).2.1
    rw [← stepB_got l h]
    unfold nextB
    rw [if_neg (by omega), if_neg (by omega)]
    obtain ⟨a, b⟩ := gotStep_I64 l
    have : diffI (diffI (wrap64 (wrap64 (last + step) + (gotStep l).1)) last) step = (gotStep l).1 := by unfold diffI wrap64; omega
    rw [this]
end Go.Proofs.YtaagjedkojlbpaaDoor
