/- Layer 34, plainly: what Open answers; what was built is opened as it was, and what was opened has the very bytes. -/
import Derived.Test.YtkidbbmdlmnokaaTG
namespace Go.Proofs.Ytkidbbmdlmnokaa
open Go.RowKit

def txtR (l : List Int) (t : Nat) (e : Int) : List Int × Nat × Int := textF l (t + (countF l t e 400).2.1) (countF l t e 400).2.2 400
def nxR (l : List Int) (i t : Nat) (e : Int) (a : ByteArray) : ByteArray × Int := nxtS i a (countF l t e 400).1.toNat (strOfNums (txtR l t e).1) (txtR l t e).2.2
def endR (l : List Int) (t : Nat) (e : Int) : Nat := t + (countF l t e 400).2.1 + (txtR l t e).2.1
/-- With texts ahead. -/
def preL (acc : List ByteArray) (r : Int × List ByteArray) : Int × List ByteArray := if r.1 ≠ 0 then (r.1, []) else (0, acc ++ r.2)
theorem preL_preL (a b : List ByteArray) (r : Int × List ByteArray) : preL a (preL b r) = preL (a ++ b) r := by
  unfold preL
  by_cases h : r.1 = 0
  · simp [h]
  · simp [h]
/-- The error, or the texts that are left to be read. -/
def opnL (l : List Int) : Nat → Nat → Nat → Int → ByteArray → Int × List ByteArray
  | 0, _, t, e, _ => (doneF l t e, [])
  | k + 1, i, t, e, a => if (nxR l i t e a).2 ≠ 0 then ((nxR l i t e a).2, []) else preL [(nxR l i t e a).1] (opnL l k (i + 1) (endR l t e) (txtR l t e).2.2 (nxR l i t e a).1)
/-- The error, or a table's texts. -/
def openS (l : List Int) : Int × List ByteArray := opnL l (countF l 0 0 4096).1.toNat 0 (countF l 0 0 4096).2.1 (countF l 0 0 4096).2.2 ByteArray.empty
theorem opnL_fault {l : List Int} {k i t : Nat} {e : Int} {a : ByteArray} (h : (nxR l i t e a).2 ≠ 0) : opnL l (k + 1) i t e a = ((nxR l i t e a).2, []) := by rw [opnL, if_pos h]
theorem opnL_step {l : List Int} {k i t : Nat} {e : Int} {a : ByteArray} (h : (nxR l i t e a).2 = 0) : opnL l (k + 1) i t e a = preL [(nxR l i t e a).1] (opnL l k (i + 1) (endR l t e) (txtR l t e).2.2 (nxR l i t e a).1) := by rw [opnL, if_neg (by simp [h])]

theorem strB_strOf {l : List Int} (h : ∀ x ∈ l, 0 ≤ x ∧ x < 256) : strB (strOfNums l) = l := by
  unfold strB strOfNums
  simp only [List.map_map, Function.comp_def]
  conv => rhs; rw [← List.map_id l]
  refine List.map_congr_left fun x hx => ?_
  have := h x hx
  simp
  omega
theorem count_num {l : List Int} {t n : Nat} {e v most : Int} (hb : ∀ x ∈ l, 0 ≤ x ∧ x < 256) (h : countF l t e most = (v, n, 0)) : e = 0 ∧ l.drop t = numB v ++ l.drop (t + n) ∧ t + n ≤ l.length ∧ 0 ≤ v ∧ v ≤ most := by
  unfold countF at h
  split at h
  · simp at h
  · rename_i h1
    have he : e = 0 := (lookE_num hb h).1
    rw [h] at h1
    unfold lookE at h
    rw [if_pos he] at h
    obtain ⟨h2, h3, h4, h5, h6, h7⟩ := look_num l t n v hb h
    refine ⟨he, ?_, h7, h3, ?_⟩
    · rw [h2, ← List.drop_drop, List.take_append_drop]
    · simp only [true_and] at h1
      omega
theorem next_num {l bs : List Int} {t m : Nat} {e n : Int} (h : nextF l t e n = (bs, m, 0)) (ht : t ≤ l.length) : e = 0 ∧ l.drop t = bs ++ l.drop (t + m) ∧ t + m ≤ l.length ∧ bs.length = m ∧ n = (m : Int) := by
  unfold nextF at h
  by_cases he : e = 0
  · rw [if_neg (by simp [he])] at h
    by_cases hn : n < 0
    · rw [if_pos hn] at h; simp at h
    · rw [if_neg hn] at h
      by_cases hl : (l.length : Int) - t < n
      · rw [if_pos hl] at h; simp at h
      · rw [if_neg hl] at h
        simp only [Prod.mk.injEq] at h
        obtain ⟨h1, h2, _⟩ := h
        refine ⟨he, ?_, by omega, ?_, by omega⟩
        · rw [← h1, ← h2, ← List.drop_drop, List.take_append_drop]
        · rw [← h1, List.length_take, List.length_drop]; omega
  · rw [if_pos he] at h
    simp only [Prod.mk.injEq] at h
    omega
theorem text_num {l bs : List Int} {t m : Nat} {e most : Int} (hb : ∀ x ∈ l, 0 ≤ x ∧ x < 256) (ht : t ≤ l.length) (h : textF l t e most = (bs, m, 0)) : e = 0 ∧ l.drop t = numB (bs.length : Nat) ++ bs ++ l.drop (t + m) ∧ t + m ≤ l.length ∧ (bs.length : Int) ≤ most := by
  have h1 := countF_taken l t e most ht
  obtain ⟨c, hc⟩ : ∃ c, c = countF l t e most := ⟨_, rfl⟩
  unfold textF at h
  rw [← hc] at h h1
  obtain ⟨v, n, e1⟩ := c
  simp only at h h1
  obtain ⟨r, hr⟩ : ∃ r, r = nextF l (t + n) e1 v := ⟨_, rfl⟩
  rw [← hr] at h
  obtain ⟨bs', m', e2⟩ := r
  simp only at h
  by_cases he : e2 = 0
  · rw [if_neg (by simp [he])] at h
    simp only [Prod.mk.injEq] at h
    obtain ⟨rfl, rfl, _⟩ := h
    rw [he] at hr
    obtain ⟨rfl, h3, h4, h5, h6⟩ := next_num hr.symm h1
    obtain ⟨h7, h8, h9, h10, h11⟩ := count_num hb hc.symm
    refine ⟨h7, ?_, by omega, by omega⟩
    rw [h8, h3, h6, h5, Nat.add_assoc, List.append_assoc]
  · rw [if_pos he] at h
    simp only [Prod.mk.injEq] at h
    omega
theorem comm_take : ∀ (a b : List Nat), a.take (comm a b) = b.take (comm a b)
  | [], _ => by simp [comm]
  | _ :: _, [] => by simp [comm]
  | x :: a, y :: b => by
    unfold comm
    split
    · rename_i e
      rw [List.take_succ_cons, List.take_succ_cons, comm_take a b, e]
    · rfl
/-- What is shared and what is not come to the text. -/
theorem shr_join (i : Nat) (a s : ByteArray) : a.extract 0 (shr i a s) ++ s.extract (shr i a s) s.size = s := by
  refine bl_inj ?_
  rw [bl_append, bl_from, bl_extract, List.drop_zero]
  unfold shr
  split
  · simp
  · rw [comm_take, List.take_append_drop]
theorem text_back2 (l rest : List Int) (t : Nat) (s : ByteArray) (most : Int) (hs : (s.size : Int) ≤ most) (hm : most ≤ 1000000) (h : l.drop t = numB s.size ++ strB s ++ rest) (ht : t ≤ l.length) : textF l t 0 most = (strB s, (numB s.size ++ strB s).length, 0) := by
  have hlk : lookE l t 0 = ((s.size : Int), 1 + oth s.size, 0) := by
    unfold lookE
    rw [if_pos rfl]
    exact lookF_numB l (strB s ++ rest) t s.size (by omega) (by omega) (by rw [h, List.append_assoc])
  have hc : countF l t 0 most = ((s.size : Int), 1 + oth s.size, 0) := by
    unfold countF
    rw [hlk, if_neg (by simp only; omega)]
  have hlen : l.length - t = 1 + oth s.size + s.size + rest.length := by
    have := congrArg List.length h
    rw [List.length_drop, List.length_append, List.length_append, numB_length, strB_length] at this; exact this
  have hd : l.drop (t + (1 + oth s.size)) = strB s ++ rest := by
    rw [← List.drop_drop, h, List.append_assoc]
    have e : 1 + oth s.size = (numB s.size).length := by rw [numB_length]
    rw [e, List.drop_left]
  have hn := next_back l (strB s) rest (t + (1 + oth s.size)) s.size (by rw [strB_length]) hd (by omega)
  unfold textF
  rw [hc]
  simp only
  rw [hn, if_neg (by simp), List.length_append, numB_length]
theorem count_back (l rest : List Int) (t : Nat) (v most : Int) (h0 : 0 ≤ v) (h1 : v ≤ most) (hm : most ≤ 1000000) (h : l.drop t = numB v ++ rest) : countF l t 0 most = (v, (numB v).length, 0) := by
  unfold countF
  rw [num_back l rest t v h0 (by omega) h, if_neg (by simp only; omega)]
/-- A text that was put down is the one that is read. -/
theorem rec_fwd {l rest : List Int} {t i : Nat} {a s : ByteArray} (h : l.drop t = recB i a s ++ rest) (ht : t ≤ l.length) (hs : s.size ≤ 400) (ho : ¬ (0 < i ∧ leS s a = true)) :
    nxR l i t 0 a = (s, 0) ∧ (txtR l t 0).2.2 = 0 ∧ l.drop (endR l t 0) = rest ∧ endR l t 0 ≤ l.length := by
  have hsh := shr_le i a s
  obtain ⟨n, hn⟩ : ∃ n, n = shr i a s := ⟨_, rfl⟩
  have hj := shr_join i a s
  unfold recB at h
  rw [← hn] at h hsh hj
  obtain ⟨x, hx⟩ : ∃ x, x = s.extract n s.size := ⟨_, rfl⟩
  rw [← hx] at h hj
  have hxs : x.size ≤ 400 := by rw [hx, size_from]; omega
  have hc : countF l t 0 400 = ((n : Int), (numB (n : Nat)).length, 0) := count_back l (numB (x.size : Nat) ++ strB x ++ rest) t n 400 (by omega) (by omega) (by omega) (by rw [h]; simp only [List.append_assoc])
  have hlen : l.length - t = (numB (n : Nat)).length + ((numB (x.size : Nat)).length + (strB x).length) + rest.length := by
    have := congrArg List.length h
    simp only [List.length_drop, List.length_append] at this
    omega
  have hd : l.drop (t + (numB (n : Nat)).length) = numB (x.size : Nat) ++ strB x ++ rest := by
    rw [← List.drop_drop, h]
    simp only [List.append_assoc]
    rw [List.drop_left]
  have htx : txtR l t 0 = (strB x, (numB (x.size : Nat) ++ strB x).length, 0) := by
    unfold txtR
    rw [hc]
    exact text_back2 l rest _ x 400 (by omega) (by omega) hd (by simp only; omega)
  refine ⟨?_, by rw [htx], ?_, ?_⟩
  · unfold nxR
    rw [htx, hc, strOf_strB]
    simp only [Int.toNat_natCast]
    unfold nxtS
    rw [if_neg (by simp), if_neg (by omega), hj, if_neg (by omega), if_neg ho, if_neg (by simp [hn])]
  · unfold endR
    rw [htx, hc, ← List.drop_drop, hd, List.drop_left]
  · unfold endR
    rw [htx, hc]
    simp only [List.length_append]
    omega
/-- What is read is what was put down. -/
theorem rec_bwd {l : List Int} {t i : Nat} {e : Int} {a s : ByteArray} (hb : ∀ x ∈ l, 0 ≤ x ∧ x < 256) (ht : t ≤ l.length) (h : nxR l i t e a = (s, 0)) :
    e = 0 ∧ (txtR l t e).2.2 = 0 ∧ l.drop t = recB i a s ++ l.drop (endR l t e) ∧ endR l t e ≤ l.length ∧ s.size ≤ 400 ∧ ¬ (0 < i ∧ leS s a = true) := by
  have h1 := countF_taken l t e 400 ht
  unfold nxR at h
  unfold endR
  have hdd : txtR l t e = textF l (t + (countF l t e 400).2.1) (countF l t e 400).2.2 400 := rfl
  obtain ⟨d, hd⟩ : ∃ d, d = txtR l t e := ⟨_, rfl⟩
  rw [← hd] at h hdd ⊢
  obtain ⟨bs, m, e2⟩ := d
  obtain ⟨c, hc⟩ : ∃ c, c = countF l t e 400 := ⟨_, rfl⟩
  rw [← hc] at h hdd h1 ⊢
  obtain ⟨v, n, e1⟩ := c
  simp only at h hdd h1 ⊢
  unfold nxtS at h
  by_cases he : e2 = 0
  · rw [if_neg (by simp [he])] at h
    rw [he] at hdd
    obtain ⟨h2, h3, h4, h5⟩ := text_num hb h1 hdd.symm
    rw [h2] at hc
    obtain ⟨h6, h7, h8, h9, h10⟩ := count_num hb hc.symm
    by_cases q1 : a.size < v.toNat
    · rw [if_pos q1] at h; simp at h
    rw [if_neg q1] at h
    obtain ⟨s', hs'⟩ : ∃ s', s' = a.extract 0 v.toNat ++ strOfNums bs := ⟨_, rfl⟩
    rw [← hs'] at h
    by_cases q2 : 400 < s'.size
    · rw [if_pos q2] at h; simp at h
    rw [if_neg q2] at h
    by_cases q3 : 0 < i ∧ leS s' a = true
    · rw [if_pos q3] at h; simp at h
    rw [if_neg q3] at h
    by_cases q4 : v.toNat ≠ shr i a s'
    · rw [if_pos q4] at h; simp at h
    rw [if_neg q4] at h
    simp only [Prod.mk.injEq, and_true] at h
    rw [h] at hs' q2 q3 q4
    have q5 : v.toNat = shr i a s := Classical.not_not.1 q4
    have hbs : ∀ x ∈ bs, 0 ≤ x ∧ x < 256 := fun x hx => hb x (by
      have : x ∈ l.drop (t + n) := by rw [h3]; simp [hx]
      exact List.mem_of_mem_drop this)
    have hx : s.extract (shr i a s) s.size = strOfNums bs := by
      refine bl_inj ?_
      rw [bl_from]
      conv => lhs; rw [hs']
      rw [bl_append, bl_extract, List.drop_zero, ← hs', ← q5, List.drop_left' (by rw [List.length_take, bl_length]; omega)]
    have hsz : (strOfNums bs).size = bs.length := by rw [← strB_length, strB_strOf hbs]
    refine ⟨h6, he, ?_, by omega, by omega, q3⟩
    unfold recB
    rw [hx, ← q5, hsz, strB_strOf hbs, h7, h3, show ((v.toNat : Nat) : Int) = v by omega]
    simp only [List.append_assoc, Nat.add_assoc]
  · rw [if_pos he] at h
    simp only [Prod.mk.injEq] at h
    omega
/-- What was built is opened as it was. -/
theorem opn_bld {l : List Int} : ∀ (L : List ByteArray) (i : Nat) (a : ByteArray) (t : Nat), l.drop t = (bldL i a L).2 → (bldL i a L).1 = 0 → t ≤ l.length → opnL l L.length i t 0 a = (0, L)
  | [], i, a, t, h, _, ht => by
    have h0 : l.drop t = [] := h
    rw [List.drop_eq_nil_iff] at h0
    rw [List.length_nil, opnL]
    unfold doneF
    rw [if_neg (by simp), if_pos (by omega)]
  | s :: L, i, a, t, h, h0, ht => by
    by_cases q1 : 400 < s.size
    · rw [bldL_large q1] at h0; simp at h0
    by_cases q2 : 0 < i ∧ leS s a = true
    · rw [bldL_order q1 q2] at h0; simp at h0
    rw [bldL_step q1 q2] at h h0
    unfold preB at h h0
    by_cases q3 : (bldL (i + 1) s L).1 = 0
    · rw [if_neg (by simp [q3])] at h
      obtain ⟨h1, h2, h3, h4⟩ := rec_fwd h ht (by omega) q2
      rw [List.length_cons, opnL_step (by rw [h1]), h1, h2, opn_bld L (i + 1) s _ h3 q3 h4]
      rfl
    · rw [if_pos q3] at h0
      exact absurd h0 q3
theorem open_build {L : List ByteArray} (h : (buildS L).1 = 0) : openS (buildS L).2 = (0, L) := by
  unfold buildS at h ⊢
  by_cases q : 4096 < L.length
  · rw [if_pos q] at h; simp at h
  rw [if_neg q] at h ⊢
  unfold preB at h ⊢
  by_cases q2 : (bldL 0 ByteArray.empty L).1 = 0
  · rw [if_neg (by simp [q2])]
    have hc : countF (numB (L.length : Nat) ++ (bldL 0 ByteArray.empty L).2) 0 0 4096 = ((L.length : Int), (numB (L.length : Nat)).length, 0) := count_back _ (bldL 0 ByteArray.empty L).2 0 _ 4096 (by omega) (by omega) (by omega) rfl
    unfold openS
    simp only
    rw [hc]
    simp only [Int.toNat_natCast]
    exact opn_bld L 0 ByteArray.empty _ (by rw [List.drop_left]) q2 (by rw [List.length_append]; omega)
  · rw [if_pos q2] at h
    exact absurd h q2
/-- What was opened has the very bytes. -/
theorem bld_opn {l : List Int} (hb : ∀ x ∈ l, 0 ≤ x ∧ x < 256) : ∀ (k i t : Nat) (e : Int) (a : ByteArray) (L : List ByteArray), opnL l k i t e a = (0, L) → t ≤ l.length → L.length = k ∧ e = 0 ∧ bldL i a L = (0, l.drop t)
  | 0, i, t, e, a, L, h, ht => by
    rw [opnL] at h
    simp only [Prod.mk.injEq] at h
    obtain ⟨h1, rfl⟩ := h
    unfold doneF at h1
    by_cases he : e = 0
    · rw [if_neg (by simp [he])] at h1
      by_cases q : t = l.length
      · refine ⟨rfl, he, ?_⟩
        rw [bldL, q, List.drop_length]
      · rw [if_neg q] at h1; simp at h1
    · rw [if_pos he] at h1; exact absurd h1 he
  | k + 1, i, t, e, a, L, h, ht => by
    by_cases q : (nxR l i t e a).2 = 0
    · rw [opnL_step q] at h
      obtain ⟨s, hs⟩ : ∃ s, s = (nxR l i t e a).1 := ⟨_, rfl⟩
      have hp : nxR l i t e a = (s, 0) := by rw [hs, ← q]
      obtain ⟨h1, h2, h3, h4, h5, h6⟩ := rec_bwd hb ht hp
      rw [← hs, h2] at h
      unfold preL at h
      by_cases q2 : (opnL l k (i + 1) (endR l t e) 0 s).1 = 0
      · rw [if_neg (by simp [q2])] at h
        simp only [Prod.mk.injEq, true_and] at h
        obtain ⟨L', hL'⟩ : ∃ L', L' = (opnL l k (i + 1) (endR l t e) 0 s).2 := ⟨_, rfl⟩
        obtain ⟨g1, _, g3⟩ := bld_opn hb k (i + 1) (endR l t e) 0 s L' (by rw [hL']; exact Prod.ext q2 rfl) h4
        rw [← hL'] at h
        subst h
        refine ⟨by simp [g1], h1, ?_⟩
        rw [List.cons_append, List.nil_append, bldL_step (by omega) h6, g3, h3]
        rfl
      · rw [if_pos q2] at h
        simp only [Prod.mk.injEq] at h
        exact absurd h.1 q2
    · rw [opnL_fault q] at h
      simp only [Prod.mk.injEq] at h
      exact absurd h.1 q
theorem build_open {l : List Int} {L : List ByteArray} (hb : ∀ x ∈ l, 0 ≤ x ∧ x < 256) (h : openS l = (0, L)) : buildS L = (0, l) := by
  have h1 := countF_taken l 0 0 4096 (Nat.zero_le _)
  unfold openS at h
  obtain ⟨c, hc⟩ : ∃ c, c = countF l 0 0 4096 := ⟨_, rfl⟩
  rw [← hc] at h h1
  obtain ⟨v, n, e⟩ := c
  simp only [Nat.zero_add] at h h1
  obtain ⟨h2, h3, h4⟩ := bld_opn hb _ _ _ _ _ _ h h1
  rw [h3] at hc
  obtain ⟨_, h5, _, h6, h7⟩ := count_num hb hc.symm
  rw [List.drop_zero, Nat.zero_add] at h5
  unfold buildS
  rw [if_neg (by omega), h4, h2, show ((v.toNat : Nat) : Int) = v by omega]
  unfold preB
  rw [if_neg (by simp), ← h5]
end Go.Proofs.Ytkidbbmdlmnokaa
