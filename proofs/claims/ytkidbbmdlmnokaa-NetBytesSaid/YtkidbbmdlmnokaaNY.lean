/- What a reader takes: bounds, what was put down, what bytes say. -/
import Derived.Test.YtkidbbmdlmnokaaNX
import Derived.Test.YtkidbbmdlmnokaaPK
namespace Go.Proofs.Ytkidbbmdlmnokaa
open Go.RowKit
theorem countF_range (l : List Int) (t : Nat) (e most : Int) (hb : ∀ x ∈ l, 0 ≤ x ∧ x < 256) (h0 : 0 ≤ most) : 0 ≤ (countF l t e most).1 ∧ (countF l t e most).1 ≤ most := by
  unfold countF
  split
  · exact ⟨by decide, h0⟩
  · rename_i h
    obtain ⟨r, hr⟩ : ∃ r, r = lookE l t e := ⟨_, rfl⟩
    obtain ⟨v, n, e1⟩ := r
    rw [← hr] at h ⊢
    simp only at h ⊢
    by_cases he : e1 = 0
    · subst he
      have := lookE_num hb hr.symm
      omega
    · have := lookE_fault hr.symm he
      omega
theorem countF_taken (l : List Int) (t : Nat) (e most : Int) (ht : t ≤ l.length) : t + (countF l t e most).2.1 ≤ l.length := by
  unfold countF
  split
  · simpa using ht
  · exact lookE_taken l t e ht
theorem countF_nat (l : List Int) (t : Nat) (e most : Int) (hb : ∀ x ∈ l, 0 ≤ x ∧ x < 256) (h0 : 0 ≤ most) : ∃ n : Nat, (countF l t e most).1 = (n : Int) ∧ (n : Int) ≤ most := by
  have := countF_range l t e most hb h0
  exact ⟨(countF l t e most).1.toNat, by omega, by omega⟩
theorem textF_len (l : List Int) (t : Nat) (e most : Int) (hb : ∀ x ∈ l, 0 ≤ x ∧ x < 256) (h0 : 0 ≤ most) : ((textF l t e most).1.length : Int) ≤ most := by
  have hc := countF_range l t e most hb h0
  obtain ⟨c, hcc⟩ : ∃ c, c = countF l t e most := ⟨_, rfl⟩
  unfold textF
  rw [← hcc] at hc ⊢
  split
  · simpa using h0
  · simp only
    unfold nextF
    split
    · simpa using h0
    · split
      · simpa using h0
      · split
        · simpa using h0
        · simp only [List.length_take]; omega
theorem textF_taken (l : List Int) (t : Nat) (e most : Int) (ht : t ≤ l.length) : t + (textF l t e most).2.1 ≤ l.length := by
  have h1 := countF_taken l t e most ht
  have h2 := nextF_taken l (t + (countF l t e most).2.1) (countF l t e most).2.2 (countF l t e most).1 h1
  unfold textF
  split
  · simpa using ht
  · simp only; omega
theorem count_num {l : List Int} {t n : Nat} {e v most : Int} (hb : ∀ x ∈ l, 0 ≤ x ∧ x < 256) (h : countF l t e most = (v, n, 0)) : e = 0 ∧ l.drop t = numB v ++ l.drop (t + n) ∧ t + n ≤ l.length ∧ 0 ≤ v ∧ v ≤ most := by
  unfold countF at h
  split at h
  · simp at h
  · rename_i h1
    have he : e = 0 := (lookE_num hb h).1
    rw [h] at h1
    unfold lookE at h
    rw [if_pos he] at h
    obtain ⟨h2, h3, h4, h5, h6, h7⟩ := look_num l t n v hb h
    refine ⟨he, ?_, h7, h3, ?_⟩
    · rw [h2, ← List.drop_drop, List.take_append_drop]
    · simp only [true_and] at h1
      omega
theorem next_num {l bs : List Int} {t m : Nat} {e n : Int} (h : nextF l t e n = (bs, m, 0)) (ht : t ≤ l.length) : e = 0 ∧ l.drop t = bs ++ l.drop (t + m) ∧ t + m ≤ l.length ∧ bs.length = m ∧ n = (m : Int) := by
  unfold nextF at h
  by_cases he : e = 0
  · rw [if_neg (by simp [he])] at h
    by_cases hn : n < 0
    · rw [if_pos hn] at h; simp at h
    · rw [if_neg hn] at h
      by_cases hl : (l.length : Int) - t < n
      · rw [if_pos hl] at h; simp at h
      · rw [if_neg hl] at h
        simp only [Prod.mk.injEq] at h
        obtain ⟨h1, h2, _⟩ := h
        refine ⟨he, ?_, by omega, ?_, by omega⟩
        · rw [← h1, ← h2, ← List.drop_drop, List.take_append_drop]
        · rw [← h1, List.length_take, List.length_drop]; omega
  · rw [if_pos he] at h
    simp only [Prod.mk.injEq] at h
    omega
theorem text_num {l bs : List Int} {t m : Nat} {e most : Int} (hb : ∀ x ∈ l, 0 ≤ x ∧ x < 256) (ht : t ≤ l.length) (h : textF l t e most = (bs, m, 0)) : e = 0 ∧ l.drop t = numB (bs.length : Nat) ++ bs ++ l.drop (t + m) ∧ t + m ≤ l.length ∧ (bs.length : Int) ≤ most := by
  have h1 := countF_taken l t e most ht
  obtain ⟨c, hc⟩ : ∃ c, c = countF l t e most := ⟨_, rfl⟩
  unfold textF at h
  rw [← hc] at h h1
  obtain ⟨v, n, e1⟩ := c
  simp only at h h1
  obtain ⟨r, hr⟩ : ∃ r, r = nextF l (t + n) e1 v := ⟨_, rfl⟩
  rw [← hr] at h
  obtain ⟨bs', m', e2⟩ := r
  simp only at h
  by_cases he : e2 = 0
  · rw [if_neg (by simp [he])] at h
    simp only [Prod.mk.injEq] at h
    obtain ⟨rfl, rfl, _⟩ := h
    rw [he] at hr
    obtain ⟨rfl, h3, h4, h5, h6⟩ := next_num hr.symm h1
    obtain ⟨h7, h8, h9, h10, h11⟩ := count_num hb hc.symm
    refine ⟨h7, ?_, by omega, by omega⟩
    rw [h8, h3, h6, h5, Nat.add_assoc, List.append_assoc]
  · rw [if_pos he] at h
    simp only [Prod.mk.injEq] at h
    omega
theorem text_back2 (l rest : List Int) (t : Nat) (s : ByteArray) (most : Int) (hs : (s.size : Int) ≤ most) (hm : most ≤ 1000000) (h : l.drop t = numB s.size ++ strB s ++ rest) (ht : t ≤ l.length) : textF l t 0 most = (strB s, (numB s.size ++ strB s).length, 0) := by
  have hlk : lookE l t 0 = ((s.size : Int), 1 + oth s.size, 0) := by
    unfold lookE
    rw [if_pos rfl]
    exact lookF_numB l (strB s ++ rest) t s.size (by omega) (by omega) (by rw [h, List.append_assoc])
  have hc : countF l t 0 most = ((s.size : Int), 1 + oth s.size, 0) := by
    unfold countF
    rw [hlk, if_neg (by simp only; omega)]
  have hlen : l.length - t = 1 + oth s.size + s.size + rest.length := by
    have := congrArg List.length h
    rw [List.length_drop, List.length_append, List.length_append, numB_length, strB_length] at this; exact this
  have hd : l.drop (t + (1 + oth s.size)) = strB s ++ rest := by
    rw [← List.drop_drop, h, List.append_assoc]
    have e : 1 + oth s.size = (numB s.size).length := by rw [numB_length]
    rw [e, List.drop_left]
  have hn := next_back l (strB s) rest (t + (1 + oth s.size)) s.size (by rw [strB_length]) hd (by omega)
  unfold textF
  rw [hc]
  simp only
  rw [hn, if_neg (by simp), List.length_append, numB_length]
theorem count_back (l rest : List Int) (t : Nat) (v most : Int) (h0 : 0 ≤ v) (h1 : v ≤ most) (hm : most ≤ 18446744073709551615) (h : l.drop t = numB v ++ rest) : countF l t 0 most = (v, (numB v).length, 0) := by
  unfold countF
  rw [num_back l rest t v h0 (by omega) h, if_neg (by simp only; omega)]
theorem text_fault {l : List Int} {t : Nat} {e most : Int} (h : (countF l t e most).2.2 ≠ 0) : (textF l t e most).2.2 = (countF l t e most).2.2 := by
  unfold textF
  have : (nextF l (t + (countF l t e most).2.1) (countF l t e most).2.2 (countF l t e most).1).2.2 = (countF l t e most).2.2 := by
    unfold nextF
    rw [if_pos h]
  rw [this, if_pos h]
theorem count_err {l : List Int} {t n : Nat} {v e1 most : Int} (h : lookF l t = (v, n, e1)) (he : e1 ≠ 0) : (countF l t 0 most).2.2 = e1 := by
  unfold countF lookE
  rw [if_pos rfl, h, if_neg (by simp [he])]
theorem count_ko {l : List Int} {t n : Nat} {v most : Int} (h : lookF l t = (v, n, 0)) (he : most < v) : (countF l t 0 most).2.2 = 4 := by
  unfold countF lookE
  rw [if_pos rfl, h, if_pos ⟨rfl, .inr he⟩]
theorem count_ok {l : List Int} {t n : Nat} {v most : Int} (h : lookF l t = (v, n, 0)) (h0 : 0 ≤ v) (he : v ≤ most) : countF l t 0 most = (v, n, 0) := by
  unfold countF lookE
  rw [if_pos rfl, h, if_neg (by simp only; omega)]
theorem count_sticky {l : List Int} {t : Nat} {e most : Int} (h : e ≠ 0) : (countF l t e most).2.2 = e := by
  unfold countF lookE
  rw [if_neg h, if_neg (by simp [h])]
/-- A reader stays beside blocks that hold neither readers nor bytes. -/
theorem RK.blk {W w w' : World} {p : Nat} {l : List Int} {t : Nat} {e : Int} {S : Nat → Prop} (h : RK W w p l t e) (k : Kept S w w') (hs : ∀ j, S j → W.heap.size ≤ j ∧ ∃ cs fr T, w.heap[j]? = some (.cells cs T fr) ∧ T ≠ 113 ∧ T ≠ 5) : RK W w' p l t e := by
  obtain ⟨v, hr, hk⟩ := h
  refine ⟨v, hr.kept k ?_ ?_, hk.newer k (fun j hj => (hs j hj).1)⟩
  · intro hp
    obtain ⟨_, cs, fr, T, h1, h2, _⟩ := hs p hp
    rw [hr.box] at h1
    injection h1 with h1
    injection h1 with _ h1
    exact h2 h1.symm
  · intro j hj hS
    obtain ⟨_, cs, fr, T, h1, _, h2⟩ := hs j hS
    obtain ⟨cur, hc⟩ := ownsRow_block hr.owns hj
    rw [hc] at h1
    injection h1 with h1
    injection h1 with _ h1
    exact h2 h1.symm
theorem RK.base {W w : World} {p : Nat} {l : List Int} {t : Nat} {e : Int} (h : RK W w p l t e) : W.heap.size ≤ p := h.elim fun _ h => h.1.base
theorem RK.box {W w : World} {p : Nat} {l : List Int} {t : Nat} {e : Int} (h : RK W w p l t e) : ∃ cs, w.heap[p]? = some (.cells cs 113 (0, 0)) := h.elim fun _ h => ⟨_, h.1.box⟩
theorem RK.taken {W w : World} {p : Nat} {l : List Int} {t : Nat} {e : Int} (h : RK W w p l t e) : t ≤ l.length := h.elim fun _ h => h.1.taken
theorem RK.byte {W w : World} {p : Nat} {l : List Int} {t : Nat} {e : Int} (h : RK W w p l t e) : ∀ x ∈ l, 0 ≤ x ∧ x < 256 := h.elim fun _ h => h.1.byte
/-- What GetNum told, in its block. -/
def GG (w : World) (g : Nat) (r : Int × Nat × Int) : Prop := w.heap[g]? = some (.cells #[.int .u64 r.1, .int .i64 r.2.1, .int .i64 r.2.2] 90 (0, 0))
theorem GG.c {w : World} {g : Nat} {r : Int × Nat × Int} (b : GG w g r) : w.cell? ⟨g, 0, none⟩ = some (.int .u64 r.1) ∧ w.cell? ⟨g, 1, none⟩ = some (.int .i64 r.2.1) ∧ w.cell? ⟨g, 2, none⟩ = some (.int .i64 r.2.2) :=
  ⟨(cell_of_row _ _ 0 _ _ _ b).trans rfl, (cell_of_row _ _ 1 _ _ _ b).trans rfl, (cell_of_row _ _ 2 _ _ _ b).trans rfl⟩
theorem GG.fz {w : World} {g : Nat} {r : Int × Nat × Int} (b : GG w g r) (j : Nat) : w.frozen? ⟨g, j, none⟩ = false := by unfold GG at b; simp [World.frozen?, b]
end Go.Proofs.Ytkidbbmdlmnokaa
