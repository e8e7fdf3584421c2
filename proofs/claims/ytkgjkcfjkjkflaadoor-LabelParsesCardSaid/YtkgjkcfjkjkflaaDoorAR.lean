/- Layer 11, plainly: what is read has this very text. -/
import Derived.Test.YtkgjkcfjkjkflaaDoorAP
import Derived.Test.YtkgjkcfjkjkflaaDoorAM
namespace Go.Proofs.YtkgjkcfjkjkflaaDoor
open Go.RowKit

theorem findN_at {s : ByteArray} {a : Nat} {c : UInt8} (h : findN s a c < s.size) : s.toList[findN s a c]? = some c := by
  rcases ixB_cases (s.extract a s.size) c with h1 | ⟨o, h1, ho⟩
  · exfalso
    unfold findN at h
    rw [if_pos h1] at h
    exact Nat.lt_irrefl _ h
  · have hf : findN s a c = a + o := by unfold findN; rw [h1, if_neg (by omega)]; omega
    have hg := indexByte_get (show Lib.indexByte (s.extract a s.size).toList c = (o : Int) from h1)
    rw [toList_from, List.getElem?_drop] at hg
    rw [hf]
    exact hg
theorem list_join {l : List UInt8} {i : Nat} {c : UInt8} (h : l[i]? = some c) : l.take i ++ ([c] ++ l.drop (i + 1)) = l := by
  obtain ⟨hi, e⟩ := List.getElem?_eq_some_iff.1 h
  have h1 : l.drop i = c :: l.drop (i + 1) := by rw [List.drop_eq_getElem_cons hi, e]
  rw [List.singleton_append, ← h1, List.take_append_drop]
theorem cut_join {s : ByteArray} {i j : Nat} {c : UInt8} (h : s.toList[i]? = some c) (hj : i < j) : s.extract 0 i ++ (({ data := #[c] } : ByteArray) ++ s.extract (i + 1) j) = s.extract 0 j := by
  apply bytes_eq
  rw [toList_append, toList_append, toList_extract, toList_extract, toList_extract, show ({ data := #[c] } : ByteArray).toList = [c] from ByteArray.toList_mk [c], List.drop_zero, List.drop_zero]
  have h2 : (s.toList.take j)[i]? = some c := by rw [List.getElem?_take, if_pos hj]; exact h
  have h3 := list_join h2
  rw [List.take_take, Nat.min_eq_left (by omega)] at h3
  exact h3
/-- What has been read so far is right, and has this text. -/
structure RD (s : ByteArray) (i : Nat) (A : List Pr) : Prop where
  good : ∀ p ∈ A, nameB p.k = true ∧ valueB p.v = true
  dis : Dis A
  adj : Adj A
  txt : headT s ++ tailT A = s.extract 0 i
  mark : i < s.size → s.toList[i]? = some 59
theorem RD.start (s : ByteArray) : RD s (findN s 0 59) [] :=
  ⟨(fun p hp => by cases hp), List.Pairwise.nil, (fun i hi => absurd hi (Nat.not_lt_zero _)), (by show headT s ++ ByteArray.empty = _; rw [empty_app]; rfl), (fun h => findN_at h)⟩
theorem RD.next {s : ByteArray} {i : Nat} {A : List Pr} {p : Pr} (h : RD s i A) (hi : i < s.size) (hn : nextE A (s.extract (i + 1) (findN s (i + 1) 59)) = (p, 0)) : RD s (findN s (i + 1) 59) (A ++ [p]) := by
  have hle := findN_le s (i + 1) 59 (by omega)
  obtain ⟨part, hpart⟩ : ∃ x, x = s.extract (i + 1) (findN s (i + 1) 59) := ⟨_, rfl⟩
  rw [← hpart, next_find] at hn
  by_cases h4 : A.length = 4
  · rw [if_pos h4] at hn; injection hn with _ hn; cases hn
  rw [if_neg h4] at hn
  by_cases hj : findN part 0 61 = part.size
  · rw [if_pos hj] at hn; injection hn with _ hn; cases hn
  rw [if_neg hj] at hn
  by_cases hv : nameB (part.extract 0 (findN part 0 61)) = true ∧ valueB (part.extract (findN part 0 61 + 1) part.size) = true
  · rw [if_pos hv] at hn
    by_cases hh : hasB A (part.extract 0 (findN part 0 61)) = true
    · rw [if_pos hh] at hn; injection hn with _ hn; cases hn
    rw [if_neg hh] at hn
    by_cases hl : 0 < A.length ∧ ltS (part.extract 0 (findN part 0 61)) (A.getD (A.length - 1) pr0).k = true
    · rw [if_pos hl] at hn; injection hn with _ hn; cases hn
    rw [if_neg hl] at hn
    injection hn with hp _
    have hjl : findN part 0 61 < part.size := by have := (findN_le part 0 61 (Nat.zero_le _)).2; omega
    have hbody : bodyP p = part := by
      have := cut_join (findN_at hjl) hjl
      rw [extract_all] at this
      rw [← hp]
      exact this
    refine ⟨?_, ?_, ?_, ?_, fun e => findN_at e⟩
    · intro q hq
      rcases List.mem_append.1 hq with e | e
      · exact h.good q e
      · rw [List.mem_singleton.1 e, ← hp]; exact hv
    · refine List.pairwise_append.2 ⟨h.dis, List.pairwise_singleton _ _, fun a ha b hb => ?_⟩
      rw [List.mem_singleton.1 hb, ← hp]
      intro e
      refine hh (List.any_eq_true.2 ⟨a, ha, ?_⟩)
      rw [e]
      exact beq_iff_eq.2 rfl
    · intro m hm
      rw [List.length_append, List.length_singleton] at hm
      by_cases hm2 : m + 1 < A.length
      · have := h.adj m hm2
        rw [List.getD_eq_getElem?_getD, List.getD_eq_getElem?_getD, List.getElem?_append_left hm2, List.getElem?_append_left (by omega), ← List.getD_eq_getElem?_getD, ← List.getD_eq_getElem?_getD]
        exact this
      · have e : m + 1 = A.length := by omega
        have e2 : m = A.length - 1 := by omega
        rw [List.getD_eq_getElem?_getD, List.getElem?_append_right (by omega), e, Nat.sub_self, List.getElem?_cons_zero, Option.getD_some, List.getD_eq_getElem?_getD, List.getElem?_append_left (by omega), ← List.getD_eq_getElem?_getD, e2, ← hp]
        cases hb : ltS (part.extract 0 (findN part 0 61)) (A.getD (A.length - 1) pr0).k with
        | false => rfl
        | true => exact absurd ⟨by omega, hb⟩ hl
    · rw [tailT_snoc, ← app_assoc, h.txt, partP_body, hbody, hpart]
      exact cut_join (h.mark hi) (by omega)
  · rw [if_neg hv] at hn; injection hn with _ hn; cases hn
theorem checkE_of {name : ByteArray} {A : List Pr} (hn : nameB name = true) (h4 : A.length ≤ 4) (hg : ∀ p ∈ A, nameB p.k = true ∧ valueB p.v = true) (hd : Dis A) : checkE name A = 0 := by
  unfold checkE
  rw [if_pos hn, if_neg (by omega)]
  have key : ∀ k, k ≤ A.length → faults A k = 0 := by
    intro k
    induction k with
    | zero => intro _; rfl
    | succ k ih =>
      intro hk
      rw [faults_succ (ih (by omega))]
      have hgd := getD_pr (List.getElem?_eq_getElem (show k < A.length by omega)) pr0
      have hgg := hg A[k] (List.getElem_mem _)
      have hh := dis_has hd (show k < A.length by omega)
      rw [hgd] at hh
      unfold faultAt
      have hgd2 : A.getD k ⟨ByteArray.empty, ByteArray.empty⟩ = A[k] := hgd
      rw [hgd2, if_pos hgg, if_neg (by rw [hh]; decide)]
  exact key _ (Nat.le_refl _)
theorem sort_same {A : List Pr} (hd : Dis A) (ha : Adj A) : sortP A = A := by
  have hs : A.Pairwise fun a b => ltS a.k b.k = true := by
    rw [List.pairwise_iff_getElem]
    have key : ∀ (d i : Nat) (h1 : i < A.length) (h2 : i + 1 + d < A.length), ltS A[i].k A[i + 1 + d].k = true := by
      intro d
      induction d with
      | zero =>
        intro i h1 h2
        have e := ha i h2
        rw [getD_pr (List.getElem?_eq_getElem h2), getD_pr (List.getElem?_eq_getElem h1)] at e
        exact ltS_of e (List.pairwise_iff_getElem.1 hd i (i + 1) h1 h2 (by omega))
      | succ d ih =>
        intro i h1 h2
        have e1 := ih i h1 (by omega)
        have e := ha (i + 1 + d) (by omega)
        rw [getD_pr (List.getElem?_eq_getElem (show i + 1 + d + 1 < A.length by omega)), getD_pr (List.getElem?_eq_getElem (show i + 1 + d < A.length by omega))] at e
        exact ltS_trans e1 (ltS_of e (List.pairwise_iff_getElem.1 hd (i + 1 + d) (i + 1 + d + 1) (by omega) (by omega) (by omega)))
    intro i j hi hj hij
    have := key (j - (i + 1)) i hi (by omega)
    have e : i + 1 + (j - (i + 1)) = j := by omega
    simp only [e] at this
    exact this
  exact strict_same (strict_sort hd) hs (fun x => sortP_mem)
theorem read_all {s : ByteArray} (hN : nameB (headT s) = true) : ∀ (d i k : Nat) (A : List Pr), s.size - i ≤ d → DP s i k A → RD s i A → (parseL s).2.2.2 = 0 → ∃ B, parseL s = (headT s, B, 0, 0) ∧ B.length ≤ 4 ∧ RD s s.size B := by
  intro d
  induction d with
  | zero =>
    intro i k A hd h r he
    have hi : i = s.size := by have := h.hi; omega
    exact ⟨A, h.done (by omega) hN, h.few, by rw [← hi]; exact r⟩
  | succ d ih =>
    intro i k A hd h r he
    by_cases hi : i < s.size
    · obtain ⟨p, E, hn⟩ : ∃ p E, nextE A (s.extract (i + 1) (findN s (i + 1) 59)) = (p, E) := ⟨_, _, rfl⟩
      by_cases hE : E = 0
      · subst hE
        have := (findN_le s (i + 1) 59 (by omega)).1
        exact ih _ _ _ (by omega) (h.next hi hn) (r.next hi hn) he
      · rw [h.bad hi hn hE hN] at he
        exact absurd he hE
    · have hi2 : i = s.size := by have := h.hi; omega
      exact ⟨A, h.done hi hN, h.few, by rw [← hi2]; exact r⟩
/-- What is read has this very text. -/
theorem text_parse {s name : ByteArray} {A : List Pr} {a : Nat} (h : parseL s = (name, A, a, 0)) : textT name A = (s, 0) := by
  cases hN : nameB (headT s) with
  | false => rw [parseL_noName hN] at h; injection h with _ h; injection h with _ h; injection h with _ h; cases h
  | true =>
    obtain ⟨B, e, h4, r⟩ := read_all hN _ _ _ _ (Nat.le_refl _) (DP.start s) (RD.start s) (by rw [h])
    rw [e] at h
    injection h with h1 h
    injection h with h2 _
    subst h1
    subst h2
    have hc := checkE_of hN h4 r.good r.dis
    unfold textT
    rw [if_neg (fun x => x hc), sort_same r.dis r.adj, textN_all, r.txt, extract_all]
end Go.Proofs.YtkgjkcfjkjkflaaDoor
