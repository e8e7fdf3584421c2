/- Layer 11: how far the document's Parse has read, plainly; its answer in a block; what is read has this very text. -/
import Derived.Test.YtkgjkcfjkjkflaaDoorAO
namespace Go.Proofs.YtkgjkcfjkjkflaaDoor
open Go.RowKit
attribute [local go_sem ↓] Go.wp_at_zero Go.wp_at_succ

/-- A text's name, ahead of the first mark. -/
def headT (s : ByteArray) : ByteArray := s.extract 0 (findN s 0 59)
/-- The parts behind it. -/
def restT (s : ByteArray) : List ByteArray := (splitA 59 s).tail
theorem extract_all (s : ByteArray) : s.extract 0 s.size = s := by apply bytes_eq; rw [toList_from]; rfl
theorem split_head (s : ByteArray) : splitA 59 s = headT s :: restT s ∧ restT s = (if findN s 0 59 < s.size then splitS 59 (s.toList.count 59 - 1) (s.extract (findN s 0 59 + 1) s.size) else []) ∧ (findN s 0 59 < s.size → (s.extract (findN s 0 59 + 1) s.size).toList.count 59 ≤ s.toList.count 59 - 1) := by
  have h := split_find (s := s) (c := 59) (a := 0) (k := s.toList.count 59) (Nat.zero_le _) (by rw [extract_all]; exact Nat.le_refl _)
  rw [extract_all] at h
  have e : splitA 59 s = headT s :: (if findN s 0 59 < s.size then splitS 59 (s.toList.count 59 - 1) (s.extract (findN s 0 59 + 1) s.size) else []) := h.1
  have e2 : restT s = (if findN s 0 59 < s.size then splitS 59 (s.toList.count 59 - 1) (s.extract (findN s 0 59 + 1) s.size) else []) := by
    unfold restT
    rw [e, List.tail_cons]
  exact ⟨by rw [e, e2], e2, h.2⟩
theorem size_head (s : ByteArray) : (headT s).size = findN s 0 59 := by
  have := (findN_le s 0 59 (Nat.zero_le _)).2
  unfold headT
  simp [ByteArray.size_extract]
  omega
theorem parseL_is (s : ByteArray) : parseL s = if nameB (headT s) = true then (if (prsN (findN s 0 59 + 1) (restT s) (restT s).length).2.2 ≠ 0 then (ByteArray.empty, [], (prsN (findN s 0 59 + 1) (restT s) (restT s).length).2.1, (prsN (findN s 0 59 + 1) (restT s) (restT s).length).2.2) else (headT s, (prsN (findN s 0 59 + 1) (restT s) (restT s).length).1, 0, 0)) else (ByteArray.empty, [], 0, 3) := by
  have e := (split_head s).1
  unfold parseL
  dsimp only
  rw [e, List.headD_cons, List.tail_cons, size_head]
/-- So far a text has been read: to the mark at i, k parts, the attributes A. -/
structure DP (s : ByteArray) (i k : Nat) (A : List Pr) : Prop where
  hi : i ≤ s.size
  hk : k ≤ (restT s).length
  pr : prsN (findN s 0 59 + 1) (restT s) k = (A, i + 1, 0)
  few : A.length ≤ 4
  left : ∃ r, (restT s).drop k = (if i < s.size then splitS 59 r (s.extract (i + 1) s.size) else []) ∧ (i < s.size → (s.extract (i + 1) s.size).toList.count 59 ≤ r)
theorem DP.start (s : ByteArray) : DP s (findN s 0 59) 0 [] :=
  ⟨(findN_le s 0 59 (Nat.zero_le _)).2, Nat.zero_le _, rfl, Nat.zero_le _, _, (split_head s).2.1, (split_head s).2.2⟩
/-- The next part. -/
theorem DP.part {s : ByteArray} {i k : Nat} {A : List Pr} (h : DP s i k A) (hi : i < s.size) : k < (restT s).length ∧ (restT s).getD k ByteArray.empty = s.extract (i + 1) (findN s (i + 1) 59) ∧ ∃ r, (restT s).drop (k + 1) = (if findN s (i + 1) 59 < s.size then splitS 59 r (s.extract (findN s (i + 1) 59 + 1) s.size) else []) ∧ (findN s (i + 1) 59 < s.size → (s.extract (findN s (i + 1) 59 + 1) s.size).toList.count 59 ≤ r) := by
  obtain ⟨r, hr, hc⟩ := h.left
  rw [if_pos hi] at hr
  obtain ⟨e, ec⟩ := split_find (s := s) (c := 59) (a := i + 1) (k := r) (by omega) (hc hi)
  rw [e] at hr
  have hk : k < (restT s).length := by
    rcases Nat.lt_or_ge k (restT s).length with h1 | h1
    · exact h1
    · rw [List.drop_eq_nil_of_le h1] at hr; cases hr
  rw [List.drop_eq_getElem_cons hk] at hr
  injection hr with h1 h2
  refine ⟨hk, ?_, r - 1, h2, ec⟩
  rw [List.getD_eq_getElem?_getD, List.getElem?_eq_getElem hk, Option.getD_some]
  exact h1
theorem part_size {s : ByteArray} {i : Nat} (hi : i < s.size) : (s.extract (i + 1) (findN s (i + 1) 59)).size = findN s (i + 1) 59 - (i + 1) := by
  have := (findN_le s (i + 1) 59 (by omega)).2
  simp [ByteArray.size_extract]
  omega
theorem DP.next {s : ByteArray} {i k : Nat} {A : List Pr} {p : Pr} (h : DP s i k A) (hi : i < s.size) (hn : nextE A (s.extract (i + 1) (findN s (i + 1) 59)) = (p, 0)) : DP s (findN s (i + 1) 59) (k + 1) (A ++ [p]) := by
  obtain ⟨hk, hg, r, hr, hc⟩ := h.part hi
  have hle := findN_le s (i + 1) 59 (by omega)
  have hz := part_size hi
  have h1 := prsN_good h.pr (by rw [hg, hn])
  rw [hg, hn, hz] at h1
  have h4 := nextE_few h.few (by rw [hn] : (nextE A (s.extract (i + 1) (findN s (i + 1) 59))).2 = 0)
  refine ⟨hle.2, hk, ?_, by rw [List.length_append]; simp; omega, r, hr, hc⟩
  rw [h1]
  refine congrArg (Prod.mk _) (congrArg (fun x => (x, 0)) ?_)
  omega
/-- A fault: the whole text's. -/
theorem DP.bad {s : ByteArray} {i k E : Nat} {A : List Pr} {p : Pr} (h : DP s i k A) (hi : i < s.size) (hn : nextE A (s.extract (i + 1) (findN s (i + 1) 59)) = (p, E)) (hE : E ≠ 0) (hN : nameB (headT s) = true) : parseL s = (ByteArray.empty, [], i + 1, E) := by
  obtain ⟨hk, hg, _⟩ := h.part hi
  have h1 := prsN_bad h.pr (by rw [hg, hn]; exact hE) hk
  rw [hg, hn] at h1
  rw [parseL_is, if_pos hN, if_pos (by rw [h1]; exact hE), h1]
theorem DP.done {s : ByteArray} {i k : Nat} {A : List Pr} (h : DP s i k A) (hi : ¬ i < s.size) (hN : nameB (headT s) = true) : parseL s = (headT s, A, 0, 0) := by
  obtain ⟨r, hr, _⟩ := h.left
  rw [if_neg hi] at hr
  have hk : k = (restT s).length := by
    have h1 := List.drop_eq_nil_iff.1 hr
    have := h.hk
    omega
  have hp := h.pr
  rw [hk] at hp
  rw [parseL_is, if_pos hN, if_neg (by rw [hp]; exact fun e => e rfl), hp]
theorem parseL_noName {s : ByteArray} (h : nameB (headT s) = false) : parseL s = (ByteArray.empty, [], 0, 3) := by
  rw [parseL_is, if_neg (by rw [h]; decide)]
/-- What a part tells, by find. -/
theorem next_find (A : List Pr) (part : ByteArray) : nextE A part =
    if A.length = 4 then (pr0, 4)
    else if findN part 0 61 = part.size then (pr0, 3)
    else if nameB (part.extract 0 (findN part 0 61)) = true ∧ valueB (part.extract (findN part 0 61 + 1) part.size) = true then
      (if hasB A (part.extract 0 (findN part 0 61)) = true then (pr0, 8)
       else if 0 < A.length ∧ ltS (part.extract 0 (findN part 0 61)) (A.getD (A.length - 1) pr0).k = true then (pr0, 9)
       else (⟨part.extract 0 (findN part 0 61), part.extract (findN part 0 61 + 1) part.size⟩, 0))
    else (pr0, 3) := by
  unfold nextE
  rw [cut_find]
  by_cases h4 : A.length = 4
  · rw [if_pos h4, if_pos h4]
  · rw [if_neg h4, if_neg h4]
    by_cases hj : findN part 0 61 = part.size
    · rw [if_pos hj, if_pos hj, if_neg (fun e => by cases e.1)]
    · rw [if_neg hj, if_neg hj]
      dsimp only
      by_cases hn : nameB (part.extract 0 (findN part 0 61)) = true ∧ valueB (part.extract (findN part 0 61 + 1) part.size) = true
      · rw [if_pos ⟨rfl, hn⟩, if_pos hn]
      · rw [if_neg (fun e => hn e.2), if_neg hn]

theorem gotp_info : (Tryd.prog.info? 35).map (·.size) = some 4 := by kernel_rfl
/-- The document's answer in its block. -/
def GB (w : World) (q : Nat) (name : ByteArray) (v : Value) (at_ E : Nat) : Prop := w.heap[q]? = some (.cells #[.string name, v, .int .i64 (at_ : Int), .int .i64 (E : Int)] 35 (0, 0))
theorem GB.same {S : Nat → Prop} {w w' : World} {q : Nat} {name : ByteArray} {v : Value} {a E : Nat} (b : GB w q name v a E) (hk : Kept S w w') (hn : ¬ S q) : GB w' q name v a E := hk.same b hn
theorem GB.fz {w : World} {q : Nat} {name : ByteArray} {v : Value} {a E : Nat} (b : GB w q name v a E) (j : Nat) : w.frozen? ⟨q, j, none⟩ = false := by unfold GB at b; simp [World.frozen?, b]
theorem GB.c {w : World} {q : Nat} {name : ByteArray} {v : Value} {a E : Nat} (b : GB w q name v a E) : w.cell? ⟨q, 0, none⟩ = some (.string name) ∧ w.cell? ⟨q, 1, none⟩ = some v ∧ w.cell? ⟨q, 2, none⟩ = some (.int .i64 (a : Int)) ∧ w.cell? ⟨q, 3, none⟩ = some (.int .i64 (E : Int)) :=
  ⟨(cell_of_row _ _ 0 _ _ _ b).trans rfl, (cell_of_row _ _ 1 _ _ _ b).trans rfl, (cell_of_row _ _ 2 _ _ _ b).trans rfl, (cell_of_row _ _ 3 _ _ _ b).trans rfl⟩
theorem GB.set {w : World} {q : Nat} {name : ByteArray} {v : Value} {a E : Nat} (b : GB w q name v a E) (name' : ByteArray) (v' : Value) (a' E' : Nat) : GB ((((w.setCell ⟨q, 0, none⟩ (.string name')).setCell ⟨q, 1, none⟩ v').setCell ⟨q, 2, none⟩ (.int .i64 (a' : Int))).setCell ⟨q, 3, none⟩ (.int .i64 (E' : Int))) q name' v' a' E' := by
  unfold GB at *; simp [World.setCell, Array.getElem?_modify, b]
theorem GB.set1 {w : World} {q : Nat} {name : ByteArray} {v : Value} {a E : Nat} (b : GB w q name v a E) (v' : Value) : GB (w.setCell ⟨q, 1, none⟩ v') q name v' a E := by
  unfold GB at *; simp [World.setCell, Array.getElem?_modify, b]
theorem set4_keptG (w : World) (q : Nat) (x y z u : Value) : Kept (fun k => k = q) w ((((w.setCell ⟨q, 0, none⟩ x).setCell ⟨q, 1, none⟩ y).setCell ⟨q, 2, none⟩ z).setCell ⟨q, 3, none⟩ u) :=
  ((((Kept.refl (fun k => k = q) w).setCell (p := ⟨q, 0, none⟩) (fun _ => rfl) x).setCell (p := ⟨q, 1, none⟩) (fun _ => rfl) y).setCell (p := ⟨q, 2, none⟩) (fun _ => rfl) z).setCell (p := ⟨q, 3, none⟩) (fun _ => rfl) u
theorem gotp_end {fn : Func} {p : Tmp} {a : Act} {P : Ending → World → Prop} {w : World} {q : Nat} {name : ByteArray} {v : Value} {at_ E : Nat} (hres : fn.results = #[.cell p 35]) (hp : a.tmps.getD p undef = .pointer (some ⟨q, 0, none⟩)) (hd : a.defers = [])
    (hg : GB w q name v at_ E) (h : P (.returned (.agg #[.string name, v, .int .i64 (at_ : Int), .int .i64 (E : Int)])) w) : bodyPost Tryd.prog fn P .ret a w :=
  bodyPost_ret (v := .agg #[.string name, v, .int .i64 (at_ : Int), .int .i64 (E : Int)]) (results_cell_row hres _ _ q 35 _ (0, 0) _ hp hg Tryd.underlying35 rfl gotp_info) hd h
/-- A row of attributes lies in no block of another kind. -/
theorem own_apart {W w : World} {v : Value} {L : List Pr} (h : MineP W w v L) {q : Nat} {name : ByteArray} {u : Value} {a E : Nat} (b : GB w q name u a E) : ∀ k, v.ownBlock = some k → k ≠ q := by
  intro k e hkq
  subst hkq
  rcases h.own.2 with ⟨e0, _⟩ | ⟨g, cap, cur, e0, _, hg, _⟩
  · subst e0; cases e
  · subst e0
    have : g = k := by injection e
    subst this
    unfold GB at b
    rw [hg] at b
    injection b with b
    injection b with _ b
    exact absurd b (by decide)
end Go.Proofs.YtkgjkcfjkjkflaaDoor
