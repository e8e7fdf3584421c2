/- Wire, plainly: fields and messages. -/
import Derived.Test.YtdgpeganmgcjiaaY1
namespace Go.Proofs.Ytdgpeganmgcjiaa

/-- A field: its number, its type, its V, its bytes. -/
structure FR where
  num : Int
  ty : Int
  v : Nat
  b : List Nat
structure FR.Ok (r : FR) : Prop where
  v : r.v < 18446744073709551616
  b : ∀ x ∈ r.b, x < 256
/-- What is wrong with a field. -/
def badF (r : FR) : Nat :=
  if r.num < 1 ∨ 536870911 < r.num then 1 else if r.ty < 0 ∨ 2 < r.ty then 14 else if (r.ty = 2 ∧ r.v ≠ 0) ∨ (r.ty ≠ 2 ∧ 0 < r.b.length) then 3 else 0
/-- Eight bytes of a number, the lowest first. -/
def fixF : Nat → Nat → List Nat
  | 0, _ => []
  | k + 1, v => (v % 256) :: fixF k (v / 256)
def fixW (v : Nat) : List Nat := fixF 8 v
def num8 : List Nat → Nat
  | [] => 0
  | c :: l => c + 256 * num8 l
def headF (r : FR) : List Nat := varW (r.num.toNat * 8 + r.ty.toNat)
def bodyF (r : FR) : List Nat := if r.ty = 0 then varW r.v else if r.ty = 1 then fixW r.v else varW r.b.length ++ r.b
def fldF (r : FR) : List Nat := headF r ++ bodyF r
/-- The error of a message. -/
def encE : List FR → Nat
  | [] => 0
  | r :: l => if badF r ≠ 0 then badF r else encE l
def encB (l : List FR) : List Nat := if encE l = 0 then l.flatMap fldF else []
/-- The field with which bytes begin, how many bytes it has, an error. -/
def fieldW (l : List Nat) : FR × Nat × Nat :=
  if (gotW l).2.2 ≠ 0 then (⟨0, 0, 0, []⟩, 0, (gotW l).2.2)
  else if 2 < (gotW l).1 % 8 then (⟨0, 0, 0, []⟩, 0, 14)
  else if (gotW l).1 / 8 < 1 ∨ 536870911 < (gotW l).1 / 8 then (⟨0, 0, 0, []⟩, 0, 1)
  else
    let n := (gotW l).2.1
    let num : Int := (((gotW l).1 / 8 : Nat) : Int)
    let r := l.drop n
    if (gotW l).1 % 8 = 0 then (if (gotW r).2.2 ≠ 0 then (⟨0, 0, 0, []⟩, 0, (gotW r).2.2) else (⟨num, 0, (gotW r).1, []⟩, n + (gotW r).2.1, 0))
    else if (gotW l).1 % 8 = 1 then (if r.length < 8 then (⟨0, 0, 0, []⟩, 0, 2) else (⟨num, 1, num8 (r.take 8), []⟩, n + 8, 0))
    else if (gotW r).2.2 ≠ 0 then (⟨0, 0, 0, []⟩, 0, (gotW r).2.2)
    else if (r.drop (gotW r).2.1).length < (gotW r).1 then (⟨0, 0, 0, []⟩, 0, 2)
    else (⟨num, 2, 0, (r.drop (gotW r).2.1).take (gotW r).1⟩, n + ((gotW r).2.1 + (gotW r).1), 0)
/-- The message behind fields that were read. -/
def decA : Nat → List FR → Nat → List Nat → List FR × Nat × Nat
  | 0, acc, _, _ => (acc, 0, 0)
  | k + 1, acc, t, l => if l.length = 0 then (acc, 0, 0) else if (fieldW l).2.2 ≠ 0 then ([], t, (fieldW l).2.2) else decA k (acc ++ [(fieldW l).1]) (t + (fieldW l).2.1) (l.drop (fieldW l).2.1)
def decM (l : List Nat) : List FR × Nat × Nat := decA l.length [] 0 l

theorem fixF_length (k v : Nat) : (fixF k v).length = k := by
  induction k generalizing v with
  | zero => rfl
  | succ k ih => simp [fixF, ih]
theorem fixF_byte (k v : Nat) : ∀ x ∈ fixF k v, x < 256 := by
  induction k generalizing v with
  | zero => simp [fixF]
  | succ k ih =>
    intro x hx
    simp only [fixF, List.mem_cons] at hx
    rcases hx with rfl | hx
    · omega
    · exact ih _ x hx
theorem num8_fixF (k v : Nat) (h : v < 256 ^ k) : num8 (fixF k v) = v := by
  induction k generalizing v with
  | zero => simp at h; simp [fixF, num8, h]
  | succ k ih =>
    simp only [fixF, num8]
    rw [ih (v / 256) (by rw [Nat.pow_succ] at h; omega)]
    omega
theorem fixF_num8 (l : List Nat) (hb : ∀ x ∈ l, x < 256) : fixF l.length (num8 l) = l := by
  induction l with
  | nil => rfl
  | cons c l ih =>
    have hc := hb c (List.mem_cons_self ..)
    simp only [List.length_cons, fixF, num8]
    rw [show (c + 256 * num8 l) % 256 = c by omega, show (c + 256 * num8 l) / 256 = num8 l by omega, ih fun x hx => hb x (List.mem_cons_of_mem _ hx)]
theorem num8_lt (l : List Nat) (hb : ∀ x ∈ l, x < 256) : num8 l < 256 ^ l.length := by
  induction l with
  | nil => simp [num8]
  | cons c l ih =>
    have hc := hb c (List.mem_cons_self ..)
    have := ih fun x hx => hb x (List.mem_cons_of_mem _ hx)
    simp only [num8, List.length_cons, Nat.pow_succ]
    omega
theorem num8_snoc (l : List Nat) (c : Nat) : num8 (l ++ [c]) = num8 l + c * 256 ^ l.length := by
  induction l with
  | nil => simp [num8]
  | cons d l ih =>
    simp only [List.cons_append, num8, ih, List.length_cons, Nat.pow_succ, Nat.mul_add]
    rw [show c * (256 ^ l.length * 256) = 256 * (c * 256 ^ l.length) by rw [Nat.mul_comm (256 ^ l.length), ← Nat.mul_assoc, Nat.mul_comm c 256, Nat.mul_assoc]]
    omega
theorem p256 : (18446744073709551616 : Nat) = 256 ^ 8 := by decide
theorem varW_le (v : Nat) : 1 ≤ (varW v).length ∧ (varW v).length ≤ 10 := varF_length 9 v
theorem varW_byte (v : Nat) (h : v < 18446744073709551616) : ∀ x ∈ varW v, x < 256 := varF_byte 9 v (by rw [← p18]; exact h)
theorem fldF_length (r : FR) : 1 ≤ (fldF r).length ∧ (fldF r).length ≤ 20 + r.b.length := by
  have h1 := varW_le (r.num.toNat * 8 + r.ty.toNat)
  have h2 := varW_le r.v
  have h3 := varW_le r.b.length
  have h4 := fixF_length 8 r.v
  unfold fldF headF bodyF fixW
  rw [List.length_append]
  split
  · omega
  · split
    · omega
    · rw [List.length_append]; omega
theorem flat_length (l : List FR) (M : Nat) (h : ∀ r ∈ l, r.b.length ≤ M) : (l.flatMap fldF).length ≤ l.length * (20 + M) := by
  induction l with
  | nil => simp
  | cons r l ih =>
    have h1 := fldF_length r
    have h2 := h r (List.mem_cons_self ..)
    have h3 := ih fun x hx => h x (List.mem_cons_of_mem _ hx)
    rw [List.flatMap_cons, List.length_append, List.length_cons, Nat.add_mul]
    omega
theorem gotW_le (l : List Nat) (hb : ∀ x ∈ l, x < 256) : (gotW l).2.1 ≤ l.length ∧ ((gotW l).2.2 = 0 → 1 ≤ (gotW l).2.1) ∧ ((gotW l).2.2 ≠ 0 → (gotW l).1 = 0 ∧ (gotW l).2.1 = 0) ∧ (gotW l).1 < 18446744073709551616 := by
  obtain ⟨V, N, E, hg⟩ : ∃ V N E, gotW l = (V, N, E) := ⟨_, _, _, rfl⟩
  rw [hg]
  obtain ⟨n, a1, a2, a3, hr⟩ := gotF_ref l hb 0 0 (by omega)
  unfold gotW at hg
  rw [hg] at hr
  rcases hr with ⟨_, e⟩ | ⟨_, _, _, e⟩ | ⟨_, _, _, e⟩ | ⟨h1, h2, _, e⟩
  · simp at e; obtain ⟨rfl, rfl, rfl⟩ := e; exact ⟨by simp, by simp, by simp, by simp⟩
  · simp at e; obtain ⟨rfl, rfl, rfl⟩ := e; exact ⟨by simp, by simp, by simp, by simp⟩
  · simp at e; obtain ⟨rfl, rfl, rfl⟩ := e; exact ⟨by simp, by simp, by simp, by simp⟩
  · have hE : E = 0 := by injection e with _ e; injection e with _ e
    subst hE
    have h := varW_got l hb V N hg
    simp at e
    obtain ⟨_, rfl⟩ := e
    exact ⟨by simp; omega, by simp, by simp, h.1⟩
theorem num_of8 (num ty : Int) (h1 : 1 ≤ num) (h2 : num ≤ 536870911) (h3 : 0 ≤ ty) (h4 : ty ≤ 2) : (((num.toNat * 8 + ty.toNat) / 8 : Nat) : Int) = num ∧ (num.toNat * 8 + ty.toNat) % 8 = ty.toNat ∧ 1 ≤ (num.toNat * 8 + ty.toNat) / 8 ∧ (num.toNat * 8 + ty.toNat) / 8 ≤ 536870911 := by omega
theorem badF_zero {r : FR} (h : badF r = 0) : 1 ≤ r.num ∧ r.num ≤ 536870911 ∧ 0 ≤ r.ty ∧ r.ty ≤ 2 ∧ (r.ty = 2 → r.v = 0) ∧ (r.ty ≠ 2 → r.b = []) := by
  unfold badF at h
  by_cases h1 : r.num < 1 ∨ 536870911 < r.num
  · rw [if_pos h1] at h; omega
  · rw [if_neg h1] at h
    by_cases h2 : r.ty < 0 ∨ 2 < r.ty
    · rw [if_pos h2] at h; omega
    · rw [if_neg h2] at h
      by_cases h3 : (r.ty = 2 ∧ r.v ≠ 0) ∨ (r.ty ≠ 2 ∧ 0 < r.b.length)
      · rw [if_pos h3] at h; omega
      · refine ⟨by omega, by omega, by omega, by omega, fun e => ?_, fun e => ?_⟩
        · by_cases hv : r.v = 0
          · exact hv
          · exact absurd (.inl ⟨e, hv⟩) h3
        · apply List.eq_nil_of_length_eq_zero
          by_cases hv : 0 < r.b.length
          · exact absurd (.inr ⟨e, hv⟩) h3
          · omega
theorem badF_ok {r : FR} (h1 : 1 ≤ r.num) (h2 : r.num ≤ 536870911) (h3 : 0 ≤ r.ty) (h4 : r.ty ≤ 2) (h5 : r.ty = 2 → r.v = 0) (h6 : r.ty ≠ 2 → r.b = []) : badF r = 0 := by
  unfold badF
  rw [if_neg (by omega), if_neg (by omega), if_neg]
  rintro (⟨a, b⟩ | ⟨a, b⟩)
  · exact b (h5 a)
  · rw [h6 a] at b; simp at b
theorem fieldW_put (r : FR) (hr : r.Ok) (hl : r.b.length < 18446744073709551616) (h : badF r = 0) (rest : List Nat) : fieldW (fldF r ++ rest) = (r, (fldF r).length, 0) := by
  obtain ⟨h1, h2, h3, h4, h5, h6⟩ := badF_zero h
  obtain ⟨e1, e2, e3, e4⟩ := num_of8 r.num r.ty h1 h2 h3 h4
  have hg : gotW (fldF r ++ rest) = (r.num.toNat * 8 + r.ty.toNat, (headF r).length, 0) := by
    unfold fldF headF
    rw [List.append_assoc]
    exact gotW_put _ _ (by omega)
  have hd : (fldF r ++ rest).drop (headF r).length = bodyF r ++ rest := by
    unfold fldF; rw [List.append_assoc, List.drop_left]
  unfold fieldW
  simp only [hg, hd, e1, e2]
  rw [if_neg (by simp), if_neg (by omega), if_neg (by omega)]
  have hlen : (fldF r).length = (headF r).length + (bodyF r).length := by unfold fldF; rw [List.length_append]
  obtain ⟨num, ty, v, b⟩ := r
  have hty : ty = 0 ∨ ty = 1 ∨ ty = 2 := by simp only at h3 h4; omega
  rcases hty with rfl | rfl | rfl
  · have hb := h6 (by simp)
    simp only at hb
    subst hb
    rw [if_pos (by rfl)]
    have hbd : bodyF ⟨num, 0, v, []⟩ = varW v := rfl
    rw [hlen, hbd, gotW_put v rest hr.v, if_neg (by simp)]
  · have hb := h6 (by simp)
    simp only at hb
    subst hb
    have hbd : bodyF ⟨num, 1, v, []⟩ = fixW v := rfl
    have hfl : (fixW v).length = 8 := fixF_length 8 v
    rw [if_neg (by simp), if_pos (by rfl), hlen, hbd, hfl, if_neg (by rw [List.length_append, hfl]; omega)]
    have e : (fixW v ++ rest).take 8 = fixW v := by rw [← hfl, List.take_left]
    rw [e]
    unfold fixW
    rw [num8_fixF 8 v (by rw [← p256]; exact hr.v)]
  · have hv := h5 rfl
    simp only at hv
    subst hv
    have hbd : bodyF ⟨num, 2, 0, b⟩ = varW b.length ++ b := rfl
    have hg2 : gotW (varW b.length ++ b ++ rest) = (b.length, (varW b.length).length, 0) := by rw [List.append_assoc]; exact gotW_put _ _ hl
    rw [if_neg (by simp), if_neg (by simp), hlen, hbd, hg2]
    have hd2 : (varW b.length ++ b ++ rest).drop (varW b.length).length = b ++ rest := by rw [List.append_assoc, List.drop_left]
    simp only [hd2]
    rw [if_neg (by simp), if_neg (by rw [List.length_append]; omega), List.take_left, List.length_append]
theorem fieldW_got (l : List Nat) (hb : ∀ x ∈ l, x < 256) (h : (fieldW l).2.2 = 0) (hl : l.length < 18446744073709551616) :
    fldF (fieldW l).1 = l.take (fieldW l).2.1 ∧ badF (fieldW l).1 = 0 ∧ (fieldW l).1.Ok ∧ (fieldW l).1.b.length ≤ l.length ∧ 1 ≤ (fieldW l).2.1 ∧ (fieldW l).2.1 ≤ l.length := by
  obtain ⟨b1, b2, b3, b4⟩ := gotW_le l hb
  unfold fieldW at h ⊢
  obtain ⟨V, N, E, hg⟩ : ∃ V N E, gotW l = (V, N, E) := ⟨_, _, _, rfl⟩
  simp only [hg] at h b1 b2 b3 b4 ⊢
  by_cases c1 : E ≠ 0
  · rw [if_pos c1] at h; exact absurd h c1
  · rw [if_neg c1] at h ⊢
    have c1 : E = 0 := by omega
    subst c1
    obtain ⟨_, v2, v3⟩ := varW_got l hb V N hg
    by_cases c2 : 2 < V % 8
    · rw [if_pos c2] at h; exact absurd h (by decide)
    · rw [if_neg c2] at h ⊢
      by_cases c3 : V / 8 < 1 ∨ 536870911 < V / 8
      · rw [if_pos c3] at h; exact absurd h (by decide)
      · rw [if_neg c3] at h ⊢
        have hrb : ∀ x ∈ l.drop N, x < 256 := fun x hx => hb x (List.mem_of_mem_drop hx)
        obtain ⟨r, hr⟩ : ∃ r, r = l.drop N := ⟨_, rfl⟩
        have hrl : r.length = l.length - N := by rw [hr, List.length_drop]
        have htk : ∀ m, l.take (N + m) = varW V ++ r.take m := fun m => by rw [v2, hr, List.take_add]
        rw [← hr] at h hrb ⊢
        obtain ⟨d1, d2, d3, d4⟩ := gotW_le r hrb
        have hb1 := b2 rfl
        have hhead : ∀ t : Nat, V % 8 = t → ∀ v b, headF ⟨((V / 8 : Nat) : Int), (t : Int), v, b⟩ = varW V := by
          intro t ht v b
          unfold headF
          congr 1
          simp only
          omega
        by_cases c4 : V % 8 = 0
        · rw [if_pos c4] at h ⊢
          obtain ⟨V2, N2, E2, hg2⟩ : ∃ V N E, gotW r = (V, N, E) := ⟨_, _, _, rfl⟩
          simp only [hg2] at h d1 d2 d3 d4 ⊢
          by_cases c5 : E2 ≠ 0
          · rw [if_pos c5] at h; exact absurd h c5
          · rw [if_neg c5]
            have c5 : E2 = 0 := by omega
            subst c5
            obtain ⟨_, w2, _⟩ := varW_got r hrb V2 N2 hg2
            have hd2 := d2 rfl
            refine ⟨?_, badF_ok (by simp only; omega) (by simp only; omega) (by simp) (by simp) (by simp) (fun _ => rfl), ⟨d4, by simp⟩, by simp, by simp only; omega, by simp only; omega⟩
            show headF _ ++ bodyF _ = _
            rw [htk, ← w2]
            have h0 := hhead 0 c4 V2 []
            rw [show ((0 : Nat) : Int) = 0 from rfl] at h0
            rw [h0]; rfl
        · rw [if_neg c4] at h ⊢
          by_cases c6 : V % 8 = 1
          · rw [if_pos c6] at h ⊢
            by_cases c7 : r.length < 8
            · rw [if_pos c7] at h; exact absurd h (by decide)
            · rw [if_neg c7]
              have h8b : ∀ x ∈ r.take 8, x < 256 := fun x hx => hrb x (List.mem_of_mem_take hx)
              have h8l : (r.take 8).length = 8 := by rw [List.length_take]; omega
              have h9 := num8_lt (r.take 8) h8b
              rw [h8l, ← p256] at h9
              refine ⟨?_, badF_ok (by simp only; omega) (by simp only; omega) (by simp) (by simp) (by simp) (fun _ => rfl), ⟨h9, by simp⟩, by simp, by simp only; omega, by simp only; omega⟩
              show headF _ ++ bodyF _ = _
              have h0 := hhead 1 c6 (num8 (r.take 8)) []
              rw [show ((1 : Nat) : Int) = 1 from rfl] at h0
              rw [htk, h0]
              have h10 := fixF_num8 (r.take 8) h8b
              rw [h8l] at h10
              congr 1
          · rw [if_neg c6] at h ⊢
            obtain ⟨V2, N2, E2, hg2⟩ : ∃ V N E, gotW r = (V, N, E) := ⟨_, _, _, rfl⟩
            simp only [hg2] at h d1 d2 d3 d4 ⊢
            by_cases c5 : E2 ≠ 0
            · rw [if_pos c5] at h; exact absurd h c5
            · rw [if_neg c5] at h ⊢
              have c5 : E2 = 0 := by omega
              subst c5
              obtain ⟨_, w2, _⟩ := varW_got r hrb V2 N2 hg2
              have hd2 := d2 rfl
              by_cases c8 : (r.drop N2).length < V2
              · rw [if_pos c8] at h; exact absurd h (by decide)
              · rw [if_neg c8]
                have c9 : V % 8 = 2 := by omega
                rw [List.length_drop] at c8
                have hbl : ((r.drop N2).take V2).length = V2 := by rw [List.length_take, List.length_drop]; omega
                refine ⟨?_, badF_ok (by simp only; omega) (by simp only; omega) (by simp) (by simp) (fun _ => rfl) (by simp), ⟨by simp, fun x hx => hrb x (List.mem_of_mem_drop (List.mem_of_mem_take hx))⟩, by simp only; rw [hbl]; omega, by simp only; omega, by simp only; omega⟩
                show headF _ ++ bodyF _ = _
                have h0 := hhead 2 c9 0 ((r.drop N2).take V2)
                rw [show ((2 : Nat) : Int) = 2 from rfl] at h0
                rw [htk, h0]
                congr 1
                show varW ((r.drop N2).take V2).length ++ (r.drop N2).take V2 = _
                rw [hbl, w2, List.take_add]
theorem encE_append (a b : List FR) (h : encE a = 0) : encE (a ++ b) = encE b := by
  induction a with
  | nil => rfl
  | cons r a ih =>
    simp only [encE, List.cons_append] at h ⊢
    by_cases h1 : badF r ≠ 0
    · rw [if_pos h1] at h; exact absurd h h1
    · rw [if_neg h1] at h ⊢; exact ih h
theorem encE_zero (l : List FR) : encE l = 0 ↔ ∀ r ∈ l, badF r = 0 := by
  induction l with
  | nil => simp [encE]
  | cons r l ih =>
    simp only [encE]
    by_cases h1 : badF r ≠ 0
    · rw [if_pos h1]; simp [h1]
    · rw [if_neg h1, ih]; simp; intro _; omega
theorem decA_put (l : List FR) (hok : ∀ r ∈ l, r.Ok ∧ r.b.length < 18446744073709551616 ∧ badF r = 0) (k : Nat) (acc : List FR) (t : Nat) (hk : (l.flatMap fldF).length ≤ k) : decA k acc t (l.flatMap fldF) = (acc ++ l, 0, 0) := by
  induction l generalizing k acc t with
  | nil => cases k <;> simp [decA]
  | cons r l ih =>
    obtain ⟨h1, h2, h3⟩ := hok r (List.mem_cons_self ..)
    have hfl := fldF_length r
    rw [List.flatMap_cons] at hk ⊢
    rw [List.length_append] at hk
    cases k with
    | zero => omega
    | succ k =>
      have hp := fieldW_put r h1 h2 h3 (l.flatMap fldF)
      unfold decA
      rw [if_neg (by rw [List.length_append]; omega), hp, if_neg (by simp), List.drop_left, ih (fun x hx => hok x (List.mem_cons_of_mem _ hx)) k _ _ (by omega)]
      simp
theorem decM_put (l : List FR) (hok : ∀ r ∈ l, r.Ok ∧ r.b.length < 18446744073709551616 ∧ badF r = 0) : decM (l.flatMap fldF) = (l, 0, 0) := by
  unfold decM; rw [decA_put l hok _ _ _ (Nat.le_refl _)]; rfl
theorem decA_got (k : Nat) (acc : List FR) (t : Nat) (l : List Nat) (hk : l.length ≤ k) (hb : ∀ x ∈ l, x < 256) (hl : l.length < 18446744073709551616) (h : (decA k acc t l).2.2 = 0) :
    (decA k acc t l).2.1 = 0 ∧ ∃ m, (decA k acc t l).1 = acc ++ m ∧ m.flatMap fldF = l ∧ m.length ≤ l.length ∧ ∀ r ∈ m, r.Ok ∧ badF r = 0 ∧ r.b.length ≤ l.length := by
  induction k generalizing acc t l with
  | zero =>
    have : l = [] := List.eq_nil_of_length_eq_zero (by omega)
    subst this
    exact ⟨rfl, [], by simp [decA], rfl, by simp, by simp⟩
  | succ k ih =>
    unfold decA at h ⊢
    by_cases h0 : l.length = 0
    · rw [if_pos h0]
      have : l = [] := List.eq_nil_of_length_eq_zero h0
      subst this
      exact ⟨rfl, [], by simp, rfl, by simp, by simp⟩
    · rw [if_neg h0] at h ⊢
      by_cases h1 : (fieldW l).2.2 ≠ 0
      · rw [if_pos h1] at h; exact absurd h h1
      · rw [if_neg h1] at h ⊢
        obtain ⟨g1, g2, g3, g4, g5, g6⟩ := fieldW_got l hb (by omega) hl
        obtain ⟨i1, m, i2, i3, i4, i5⟩ := ih (acc ++ [(fieldW l).1]) (t + (fieldW l).2.1) (l.drop (fieldW l).2.1) (by rw [List.length_drop]; omega) (fun x hx => hb x (List.mem_of_mem_drop hx)) (by rw [List.length_drop]; omega) h
        rw [List.length_drop] at i4 i5
        refine ⟨i1, (fieldW l).1 :: m, by rw [i2, List.append_assoc]; rfl, by rw [List.flatMap_cons, g1, i3, List.take_append_drop], by rw [List.length_cons]; omega, fun r hr => ?_⟩
        rcases List.mem_cons.1 hr with rfl | hr
        · exact ⟨g3, g2, g4⟩
        · obtain ⟨a, b, c⟩ := i5 r hr; exact ⟨a, b, by omega⟩
end Go.Proofs.Ytdgpeganmgcjiaa
