/- The document's layer 32: Match. -/
import Derived.Test.YtjbjfdmdicfjfaaDK
namespace Go.Proofs.Ytjbjfdmdicfjfaa
open Go.RowKit
attribute [local go_sem ↓] Go.wp_at_zero Go.wp_at_succ

theorem run_makeG {P : Program} {t e : TypeId} {i : TypeInfo} {z : Value} (ht : P.underlying t = some (.slice e)) (hi : P.info? e = some i) (hz : i.zero = some z) (hs : i.size = 1) (hzc : z.cells = #[z]) (hb : i.bytes ≤ 64) (n : Nat) (hn : n ≤ 1000000) (w : World) :
    (Instr.makeSlice t (.int .i64 (n : Int)) (.int .i64 (n : Int))).run P w = .ok (.slice (some ⟨w.heap.size, 0, none⟩) n n) (w.alloc (.cells (Array.replicate n z) e)) := by
  have hbn : (i.bytes : Int) * (n : Int) ≤ 64 * 1000000 := by
    have : i.bytes * n ≤ 64 * 1000000 := Nat.mul_le_mul hb hn
    have h2 : ((i.bytes * n : Nat) : Int) ≤ 64 * 1000000 := by omega
    rwa [Int.natCast_mul] at h2
  have hr := run_makeSlice (P := P) w t e i z ht hi hz .i64 .i64 (n : Int) (n : Int) (by omega) (Int.le_refl _) (by rw [hs]; omega) (by omega) (by omega)
  rw [hr]
  simp only [Int.toNat_natCast]
  have e : madeCells z.cells (n * i.size) = Array.replicate n z := by
    rw [hs, Nat.mul_one, hzc]
    apply Array.toList_inj.1
    rw [toList_madeCells_one]; simp
  rw [e]
theorem mine_madeG {W w : World} (hk : Kept (fun _ => False) W w) (n : Nat) (z : Value) (E : TypeId) (hn : n ≤ maxLen) : Mine W (w.alloc (.cells (Array.replicate n z) E)) E (.slice (some ⟨w.heap.size, 0, none⟩) n n) (List.replicate n z) := by
  refine ⟨⟨by simp, .inr ⟨w.heap.size, n, _, by simp, hk.size, heap_alloc_new w _, by simp, hn, by simp, ?_⟩⟩, hk.alloc _⟩
  simp

/-- Which beginnings of a text the first pieces stand for. -/
def canB (ps : List Pc) (l : List Nat) (i k : Nat) : Bool := mt (ps.take i) (l.take k)
def canL (ps : List Pc) (l : List Nat) (i : Nat) : List Bool := (List.range (l.length + 1)).map (canB ps l i)
theorem canL_length (ps : List Pc) (l : List Nat) (i : Nat) : (canL ps l i).length = l.length + 1 := by simp [canL]
theorem canL_get (ps : List Pc) (l : List Nat) (i : Nat) {k : Nat} (h : k < l.length + 1) : (canL ps l i)[k]? = some (canB ps l i k) := by
  simp [canL, List.getElem?_range h]
theorem can_zero (ps : List Pc) (l : List Nat) : (List.replicate (l.length + 1) false).set 0 true = canL ps l 0 := by
  apply List.ext_getElem?
  intro k
  by_cases hk : k < l.length + 1
  · rw [canL_get ps l 0 hk]
    unfold canB
    rw [List.take_zero]
    by_cases h0 : k = 0
    · subst h0
      rw [List.getElem?_set_self (by simp), List.take_zero, mt]
    · rw [List.getElem?_set_ne (fun e => h0 e.symm), List.getElem?_replicate, if_pos hk]
      congr 1
      symm
      rw [← Bool.not_eq_true, mt_nil]
      intro e
      have := congrArg List.length e
      rw [List.length_take, List.length_nil] at this
      omega
  · rw [List.getElem?_eq_none (by simp; omega), List.getElem?_eq_none (by rw [canL_length]; omega)]
theorem can_many {ps : List Pc} {l : List Nat} {i : Nat} {p : Pc} (hp : ps[i]? = some p) (h3 : p.k = 3) (k : Nat) (hk : k ≤ l.length) : canB ps l (i + 1) k = (canB ps l i k || (decide (0 < k) && canB ps l (i + 1) (k - 1))) := by
  have hone : ∀ t, mt [p] t = true := fun t => (mt_many _ _ h3).2 ⟨t.length, Nat.le_refl _, by rw [List.drop_length, mt]⟩
  have key : ∀ k, k ≤ l.length → (canB ps l (i + 1) k = true ↔ ∃ j, j ≤ k ∧ canB ps l i j = true) := by
    intro k hk
    unfold canB
    rw [List.take_add_one, hp, Option.toList_some, mt_append]
    constructor
    · rintro ⟨j, hj, h1, _⟩
      rw [List.length_take] at hj
      rw [List.take_take] at h1
      exact ⟨j, by omega, by rwa [Nat.min_eq_left (by omega)] at h1⟩
    · rintro ⟨j, hj, h1⟩
      exact ⟨j, by rw [List.length_take]; omega, by rw [List.take_take, Nat.min_eq_left hj]; exact h1, hone _⟩
  rw [Bool.eq_iff_iff, key k hk, Bool.or_eq_true, Bool.and_eq_true, decide_eq_true_eq]
  constructor
  · rintro ⟨j, hj, h1⟩
    by_cases hjk : j = k
    · subst hjk; exact .inl h1
    · exact .inr ⟨by omega, (key (k - 1) (by omega)).2 ⟨j, by omega, h1⟩⟩
  · rintro (h1 | ⟨h0, h1⟩)
    · exact ⟨k, Nat.le_refl _, h1⟩
    · obtain ⟨j, hj, h2⟩ := (key (k - 1) (by omega)).1 h1
      exact ⟨j, by omega, h2⟩
theorem can_one {ps : List Pc} {l : List Nat} {i : Nat} {p : Pc} (hp : ps[i]? = some p) (h3 : p.k ≠ 3) (k : Nat) (hk : k ≤ l.length) : canB ps l (i + 1) k = (decide (0 < k) && canB ps l i (k - 1) && p.hold (l.getD (k - 1) 0)) := by
  rw [Bool.eq_iff_iff, Bool.and_eq_true, Bool.and_eq_true, decide_eq_true_eq]
  unfold canB
  rw [List.take_add_one, hp, Option.toList_some, mt_append]
  constructor
  · rintro ⟨j, hj, h1, h2⟩
    obtain ⟨c, t, e, hc, ht⟩ := (mt_one _ _ h3).1 h2
    rw [mt_nil] at ht
    subst ht
    have hl := congrArg List.length e
    rw [List.length_drop, List.length_take] at hl
    rw [List.length_take] at hj
    simp at hl
    have hjk : j = k - 1 := by omega
    rw [List.take_take, Nat.min_eq_left (by omega)] at h1
    have hg : (l.take k).getD j 0 = c := by
      have := drop_cons (l := l.take k) (i := j) (by rw [List.length_take]; omega)
      rw [this] at e
      injection e
    rw [List.getD_eq_getElem?_getD, List.getElem?_take, if_pos (by omega), ← List.getD_eq_getElem?_getD] at hg
    exact ⟨⟨by omega, by rw [← hjk]; exact h1⟩, by rw [← hjk, hg]; exact hc⟩
  · rintro ⟨⟨h0, h1⟩, h2⟩
    refine ⟨k - 1, by rw [List.length_take]; omega, by rw [List.take_take, Nat.min_eq_left (by omega)]; exact h1, (mt_one _ _ h3).2 ⟨l.getD (k - 1) 0, [], ?_, h2, by rw [mt]⟩⟩
    rw [drop_cons (by rw [List.length_take]; omega), List.drop_eq_nil_of_le (by rw [List.length_take]; omega)]
    rw [List.getD_eq_getElem?_getD, List.getElem?_take, if_pos (by omega), ← List.getD_eq_getElem?_getD]
/-- What is reckoned of the next row so far. -/
def nxtL (C : List Bool) (k : Nat) : List Bool := C.take k ++ List.replicate (C.length - k) false
theorem nxtL_length {C : List Bool} {k : Nat} (h : k ≤ C.length) : (nxtL C k).length = C.length := by unfold nxtL; rw [List.length_append, List.length_take, List.length_replicate]; omega
theorem nxtL_set {C : List Bool} {k : Nat} {b : Bool} (h : C[k]? = some b) : (nxtL C k).set k b = nxtL C (k + 1) := by
  have hk := (List.getElem?_eq_some_iff.1 h).1
  unfold nxtL
  rw [List.set_append_right _ _ (by rw [List.length_take]; omega), List.length_take, Nat.min_eq_left (by omega), Nat.sub_self, show C.length - k = (C.length - (k + 1)) + 1 by omega, List.replicate_succ, List.set_cons_zero, List.take_add_one, h, List.append_assoc]
  rfl
theorem nxtL_get {C : List Bool} {k j : Nat} (h : j < k) (hk : k ≤ C.length) : (nxtL C k)[j]? = C[j]? := by
  unfold nxtL
  rw [List.getElem?_append_left (by rw [List.length_take]; omega), List.getElem?_take, if_pos h]
theorem nxtL_at {C : List Bool} {k : Nat} (hk : k < C.length) : (nxtL C k)[k]? = some false := by
  unfold nxtL
  rw [List.getElem?_append_right (by rw [List.length_take]; omega), List.length_take, Nat.min_eq_left (by omega), Nat.sub_self, List.getElem?_replicate, if_pos (by omega)]
theorem boV_at {l : List Bool} {j : Nat} {b : Bool} (h : l[j]? = some b) : (boV l)[j]? = some (.bool b) := by unfold boV; rw [List.getElem?_map, h]; rfl
end Go.Proofs.Ytjbjfdmdicfjfaa
