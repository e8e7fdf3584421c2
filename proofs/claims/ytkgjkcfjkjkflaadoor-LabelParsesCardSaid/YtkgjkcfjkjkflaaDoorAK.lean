/- Layer 11, plainly: a label's text is read as the label. -/
import Derived.Test.YtkgjkcfjkjkflaaDoorAH
namespace Go.Proofs.YtkgjkcfjkjkflaaDoor
open Go.RowKit

theorem toList_append (a b : ByteArray) : (a ++ b).toList = a.toList ++ b.toList := by
  rw [ByteArray.toList_eq, ByteArray.toList_eq, ByteArray.toList_eq]; simp
theorem toList_extract (s : ByteArray) (i j : Nat) : (s.extract i j).toList = (s.toList.take j).drop i := by
  rw [ByteArray.toList_eq, ByteArray.toList_eq]
  simp [List.drop_take]
/-- A byte stands nowhere in a text. -/
def noB (c : UInt8) (s : ByteArray) : Prop := ∀ b ∈ s.toList, b ≠ c
theorem noB_append {c : UInt8} {a b : ByteArray} (h1 : noB c a) (h2 : noB c b) : noB c (a ++ b) := by
  intro x hx
  rw [toList_append] at hx
  rcases List.mem_append.1 hx with h | h
  · exact h1 x h
  · exact h2 x h
theorem indexByte_no {l : List UInt8} {c : UInt8} (h : ∀ b ∈ l, b ≠ c) : Lib.indexByte l c = -1 := by
  induction l with
  | nil => rfl
  | cons b l ih =>
    unfold Lib.indexByte
    rw [if_neg (by rw [beq_iff_eq]; exact h b List.mem_cons_self), ih (fun x hx => h x (List.mem_cons_of_mem _ hx))]
    rfl
theorem indexByte_at {l m : List UInt8} {c : UInt8} (h : ∀ b ∈ l, b ≠ c) : Lib.indexByte (l ++ c :: m) c = l.length := by
  induction l with
  | nil => unfold Lib.indexByte; rw [List.nil_append]; simp
  | cons b l ih =>
    rw [List.cons_append]
    unfold Lib.indexByte
    rw [if_neg (by rw [beq_iff_eq]; exact h b List.mem_cons_self), ih (fun x hx => h x (List.mem_cons_of_mem _ hx)), if_neg (by simp)]
    simp
theorem ixB_no {s : ByteArray} {c : UInt8} (h : noB c s) : ixB s c = -1 := indexByte_no h
theorem ixB_at {a b : ByteArray} {c : UInt8} (h : noB c a) : ixB (a ++ (({ data := #[c] } : ByteArray) ++ b)) c = a.size := by
  unfold ixB
  rw [toList_append, toList_append, show ({ data := #[c] } : ByteArray).toList = [c] from ByteArray.toList_mk [c], List.cons_append, List.nil_append, indexByte_at h, toList_size]
theorem cut_left (a b : ByteArray) : (a ++ b).extract 0 a.size = a := by
  apply bytes_eq
  rw [toList_extract, toList_append, List.drop_zero, ← toList_size, List.take_left]
theorem cut_right (a b : ByteArray) (c : UInt8) : (a ++ (({ data := #[c] } : ByteArray) ++ b)).extract (a.size + 1) (a ++ (({ data := #[c] } : ByteArray) ++ b)).size = b := by
  apply bytes_eq
  have h1 : ({ data := #[c] } : ByteArray).toList = [c] := ByteArray.toList_mk [c]
  have hX : (a ++ (({ data := #[c] } : ByteArray) ++ b)).toList = a.toList ++ ([c] ++ b.toList) := by rw [toList_append, toList_append, h1]
  rw [toList_extract, List.take_of_length_le (by rw [toList_size]; exact Nat.le_refl _), hX, ← toList_size a, List.drop_append, List.drop_eq_nil_of_le (by omega), Nat.add_sub_cancel_left]
  rfl
/-- An attribute's part, without what parts it. -/
def bodyP (p : Pr) : ByteArray := p.k ++ (c61 ++ p.v)
/-- The parts of many, each behind its mark. -/
def tailT : List Pr → ByteArray
  | [] => ByteArray.empty
  | p :: M => c59 ++ (bodyP p ++ tailT M)
theorem empty_app (a : ByteArray) : a ++ ByteArray.empty = a := by
  apply bytes_eq
  rw [toList_append, show ByteArray.empty.toList = [] from ByteArray.toList_mk []]
  simp
theorem partP_body (p : Pr) : partP p = c59 ++ bodyP p := by unfold partP bodyP; simp only [app_assoc]
theorem tailT_snoc (M : List Pr) (p : Pr) : tailT (M ++ [p]) = tailT M ++ partP p := by
  induction M with
  | nil => show c59 ++ (bodyP p ++ ByteArray.empty) = ByteArray.empty ++ partP p; rw [empty_app, partP_body]; apply bytes_eq; rw [toList_append ByteArray.empty, show ByteArray.empty.toList = [] from ByteArray.toList_mk []]; rfl
  | cons q M ih => show c59 ++ (bodyP q ++ tailT (M ++ [p])) = (c59 ++ (bodyP q ++ tailT M)) ++ partP p; rw [ih]; simp only [app_assoc]
theorem textN_tail (name : ByteArray) (M : List Pr) (i : Nat) (hi : i ≤ M.length) : textN name M i = name ++ tailT (M.take i) := by
  induction i with
  | zero => show name = name ++ ByteArray.empty; rw [empty_app]
  | succ i ih =>
    have hi' : i < M.length := by omega
    show textN name M i ++ partP (M.getD i pr0) = _
    rw [ih (by omega), getD_pr (List.getElem?_eq_getElem hi'), List.take_add_one, List.getElem?_eq_getElem hi', Option.toList_some, tailT_snoc, app_assoc]
theorem textN_all (name : ByteArray) (M : List Pr) : textN name M M.length = name ++ tailT M := by rw [textN_tail name M _ (Nat.le_refl _), List.take_length]
theorem split_tail (a : ByteArray) (M : List Pr) (k : Nat) (hk : M.length ≤ k) (ha : noB 59 a) (hM : ∀ p ∈ M, noB 59 (bodyP p)) : splitS 59 k (a ++ tailT M) = a :: M.map bodyP := by
  induction M generalizing a k with
  | nil =>
    show splitS 59 k (a ++ ByteArray.empty) = [a]
    rw [empty_app]
    exact splitS_none k (ixB_no ha)
  | cons p M ih =>
    cases k with
    | zero => simp at hk
    | succ k =>
      have hx : ixB (a ++ (c59 ++ (bodyP p ++ tailT M))) 59 = a.size := ixB_at ha
      rw [show a ++ tailT (p :: M) = a ++ (c59 ++ (bodyP p ++ tailT M)) from rfl]
      show (if ixB (a ++ (c59 ++ (bodyP p ++ tailT M))) 59 = -1 then _ else _) = _
      rw [if_neg (by rw [hx]; omega), hx, Int.toNat_natCast, cut_left, show c59 = ({ data := #[59] } : ByteArray) from rfl, cut_right, ih (bodyP p) k (by simpa using hk) (hM p List.mem_cons_self) (fun q hq => hM q (List.mem_cons_of_mem _ hq))]
      rfl
theorem count_tail (a : ByteArray) (M : List Pr) : M.length ≤ (a ++ tailT M).toList.count 59 := by
  induction M generalizing a with
  | nil => exact Nat.zero_le _
  | cons p M ih =>
    have h := ih (bodyP p)
    show _ ≤ (a ++ (c59 ++ (bodyP p ++ tailT M))).toList.count 59
    rw [toList_append, toList_append, List.count_append, List.count_append, show c59.toList = [59] from ByteArray.toList_mk [59]]
    have : List.count (59 : UInt8) [59] = 1 := rfl
    rw [List.length_cons]
    omega
theorem chr_mem {s : ByteArray} {b : UInt8} (h : b ∈ s.toList) : ∃ i, i < s.size ∧ chr s i = b.toNat := by
  obtain ⟨i, hi, he⟩ := List.getElem_of_mem h
  refine ⟨i, by rw [← toList_size]; exact hi, ?_⟩
  unfold chr
  rw [List.getD_eq_getElem?_getD, List.getElem?_eq_getElem hi, he]; rfl
theorem nameB_noB {s : ByteArray} (h : nameB s = true) (c : UInt8) (hc : letterB c.toNat = false) (hc2 : otherB c.toNat = false) : noB c s := by
  have h := of_decide_eq_true h
  intro b hb e
  obtain ⟨i, hi, hx⟩ := chr_mem hb
  rcases h.2.2 i hi with h1 | h1
  · rw [hx, e, hc] at h1; cases h1
  · rw [hx, e, hc2] at h1; cases h1
theorem valueB_noB {s : ByteArray} (h : valueB s = true) (c : UInt8) (hc : okV c.toNat = false) : noB c s := by
  have h := of_decide_eq_true h
  intro b hb e
  obtain ⟨i, hi, hx⟩ := chr_mem hb
  have h1 := h.2 i hi
  rw [hx, e, hc] at h1; cases h1
theorem cutS_body {p : Pr} (h : nameB p.k = true) : cutS (bodyP p) 61 = (p.k, p.v, true) := by
  have hx : ixB (bodyP p) 61 = p.k.size := ixB_at (nameB_noB h 61 rfl rfl)
  unfold cutS
  rw [if_neg (by rw [hx]; omega), hx, Int.toNat_natCast]
  unfold bodyP
  rw [cut_left, show c61 = ({ data := #[61] } : ByteArray) from rfl, cut_right]
theorem body_noB {p : Pr} (h : nameB p.k = true) (hv : valueB p.v = true) : noB 59 (bodyP p) := by
  refine noB_append (nameB_noB h 59 rfl rfl) (noB_append ?_ (valueB_noB hv 59 rfl))
  intro b hb
  rw [show c61.toList = [61] from ByteArray.toList_mk [61], List.mem_singleton] at hb
  rw [hb]; decide

/-- No key below the one ahead of it. -/
def Adj (M : List Pr) : Prop := ∀ i, i + 1 < M.length → ltS (M.getD (i + 1) pr0).k (M.getD i pr0).k = false
theorem ltS_asymm {a b : ByteArray} (h : ltS a b = true) : ltS b a = false := by
  have := bytesLess_total b.toList a.toList
  unfold ltS at h ⊢
  rw [h] at this
  cases h2 : Op.bytesLess b.toList a.toList with
  | false => rfl
  | true => rw [h2] at this; simp at this
theorem plc_left (A : List Pr) (x : Pr) (n : Nat) (h : 0 < plc A x n) : ltS x.k (A.getD (plc A x n - 1) pr0).k = false := by
  induction n with
  | zero => exact absurd h (Nat.lt_irrefl 0)
  | succ n ih =>
    unfold plc at h ⊢
    by_cases hl : ltS x.k (A.getD n pr0).k = true
    · rw [if_pos hl] at h ⊢; exact ih h
    · rw [if_neg hl]
      rw [Nat.add_sub_cancel]
      cases hb : ltS x.k (A.getD n pr0).k with
      | false => rfl
      | true => exact absurd hb hl
theorem plc_right (A : List Pr) (x : Pr) (n j : Nat) (h1 : plc A x n ≤ j) (h2 : j < n) : ltS x.k (A.getD j pr0).k = true := by
  induction n with
  | zero => omega
  | succ n ih =>
    unfold plc at h1
    by_cases hl : ltS x.k (A.getD n pr0).k = true
    · rw [if_pos hl] at h1
      rcases Nat.lt_or_ge j n with h | h
      · exact ih h1 h
      · obtain rfl : j = n := by omega
        exact hl
    · rw [if_neg hl] at h1; omega
theorem insP_get (A : List Pr) (x : Pr) (i : Nat) : (insP A x).getD i pr0 = if i < plc A x A.length then A.getD i pr0 else if i = plc A x A.length then x else A.getD (i - 1) pr0 := by
  have hp := plc_le A x A.length
  unfold insP
  rw [List.getD_eq_getElem?_getD]
  by_cases h : i < plc A x A.length
  · rw [if_pos h, List.getElem?_append_left (by rw [List.length_take]; omega), List.getElem?_take_of_lt h, List.getD_eq_getElem?_getD]
  · rw [if_neg h, List.getElem?_append_right (by rw [List.length_take]; omega), List.length_take, Nat.min_eq_left hp]
    by_cases h2 : i = plc A x A.length
    · rw [if_pos h2, h2, Nat.sub_self]; rfl
    · rw [if_neg h2]
      obtain ⟨m, hm⟩ : ∃ m, i - plc A x A.length = m + 1 := ⟨i - plc A x A.length - 1, by omega⟩
      rw [hm, List.getElem?_cons_succ, List.getElem?_drop, List.getD_eq_getElem?_getD, show plc A x A.length + m = i - 1 by omega]
theorem insP_adj {A : List Pr} {x : Pr} (h : Adj A) : Adj (insP A x) := by
  intro i hi
  rw [insP_length] at hi
  have hp := plc_le A x A.length
  rw [insP_get, insP_get]
  by_cases h1 : i + 1 < plc A x A.length
  · rw [if_pos h1, if_pos (by omega)]
    exact h i (by omega)
  · rw [if_neg h1]
    by_cases h2 : i + 1 = plc A x A.length
    · rw [if_pos h2, if_pos (by omega)]
      have := plc_left A x A.length (by omega)
      rwa [← h2, Nat.add_sub_cancel] at this
    · rw [if_neg h2, Nat.add_sub_cancel, if_neg (by omega)]
      by_cases h3 : i = plc A x A.length
      · rw [if_pos h3]
        exact ltS_asymm (plc_right A x A.length i (by omega) (by omega))
      · rw [if_neg h3]
        have := h (i - 1) (by omega)
        rwa [show i - 1 + 1 = i by omega] at this
theorem sortP_adj (L : List Pr) : Adj (sortP L) := by
  have key : ∀ (L A : List Pr), Adj A → Adj (L.foldl insP A) := by
    intro L
    induction L with
    | nil => intro A h; exact h
    | cons x L ih => intro A h; exact ih _ (insP_adj h)
  exact key L [] (fun i hi => by simp at hi)
theorem insP_perm (A : List Pr) (x : Pr) : (insP A x).Perm (x :: A) := by
  unfold insP
  refine List.perm_middle.trans ?_
  rw [List.take_append_drop]
theorem sortP_perm (L : List Pr) : (sortP L).Perm L := by
  have key : ∀ (L A : List Pr), (L.foldl insP A).Perm (A ++ L) := by
    intro L
    induction L with
    | nil => intro A; simp
    | cons x L ih =>
      intro A
      refine (ih _).trans ?_
      refine ((insP_perm A x).append_right L).trans ?_
      exact List.perm_middle.symm
  have := key L []
  simpa [sortP] using this
/-- All keys are different. -/
def Dis (L : List Pr) : Prop := L.Pairwise fun a b => a.k ≠ b.k
theorem dis_sort {L : List Pr} (h : Dis L) : Dis (sortP L) := ((sortP_perm L).pairwise_iff (fun h e => h e.symm)).2 h
theorem dis_has {L : List Pr} (h : Dis L) {i : Nat} (hi : i < L.length) : hasB (L.take i) (L.getD i pr0).k = false := by
  rw [getD_pr (List.getElem?_eq_getElem hi)]
  unfold hasB
  rw [List.any_eq_false]
  intro p hp
  obtain ⟨j, hj, he⟩ := List.getElem_of_mem hp
  rw [List.getElem_take] at he
  have hj' : j < i := by rw [List.length_take] at hj; omega
  have := List.pairwise_iff_getElem.1 h j i (by omega) hi hj'
  rw [he] at this
  rw [beq_bytes]
  simpa using this
theorem checkE_facts {name : ByteArray} {L : List Pr} (h : checkE name L = 0) : nameB name = true ∧ L.length ≤ 4 ∧ (∀ p ∈ L, nameB p.k = true ∧ valueB p.v = true) ∧ Dis L := by
  have h4 := checkE_few h
  unfold checkE at h
  by_cases hn : nameB name = true
  · rw [if_pos hn, if_neg (by omega)] at h
    have hz : ∀ i, i ≤ L.length → faults L i = 0 := by
      intro i hi
      apply Classical.byContradiction
      intro hne
      have := faults_stop hne (L.length - i)
      rw [Nat.add_sub_cancel' hi] at this
      rw [this] at h
      exact hne h
    have hf : ∀ i, i < L.length → faultAt L i = 0 := fun i hi => by rw [← faults_succ (hz i (by omega))]; exact hz (i + 1) hi
    have hg : ∀ i (hi : i < L.length), (nameB (L[i]).k = true ∧ valueB (L[i]).v = true) ∧ hasB (L.take i) (L[i]).k = false := by
      intro i hi
      have := hf i hi
      unfold faultAt at this
      rw [getD_pr (List.getElem?_eq_getElem hi)] at this
      split at this
      · rename_i h1
        split at this
        · cases this
        · rename_i h2
          exact ⟨h1, by simpa using h2⟩
      · cases this
    refine ⟨hn, h4, fun p hp => ?_, ?_⟩
    · obtain ⟨i, hi, rfl⟩ := List.getElem_of_mem hp
      exact (hg i hi).1
    · refine List.pairwise_iff_getElem.2 fun i j hi hj hij e => ?_
      have := (hg j hj).2
      unfold hasB at this
      rw [List.any_eq_false] at this
      exact this L[i] (List.mem_take_iff_getElem.2 ⟨i, by omega, rfl⟩) (beq_iff_eq.2 (by rw [e]))
  · rw [if_neg hn] at h; cases h
/-- A right label's text is read as the label. -/
theorem parse_text {name : ByteArray} {M : List Pr} (hn : nameB name = true) (h4 : M.length ≤ 4) (hM : ∀ p ∈ M, nameB p.k = true ∧ valueB p.v = true) (hD : Dis M) (hA : Adj M) : parseL (textN name M M.length) = (name, M, 0, 0) := by
  rw [textN_all]
  have hs : splitA 59 (name ++ tailT M) = name :: M.map bodyP := split_tail name M _ (count_tail name M) (nameB_noB hn 59 rfl rfl) (fun p hp => body_noB (hM p hp).1 (hM p hp).2)
  have hk : ∀ k, k ≤ M.length → ∃ at_, prsN (name.size + 1) (M.map bodyP) k = (M.take k, at_, 0) := by
    intro k hk
    induction k with
    | zero => exact ⟨_, rfl⟩
    | succ k ih =>
      obtain ⟨at_, h⟩ := ih (by omega)
      have hkM : k < M.length := by omega
      have hg : (M.map bodyP).getD k ByteArray.empty = bodyP M[k] := by rw [List.getD_eq_getElem?_getD, List.getElem?_map, List.getElem?_eq_getElem hkM]; rfl
      have hm := hM M[k] (List.getElem_mem hkM)
      have hd := dis_has hD hkM
      rw [getD_pr (List.getElem?_eq_getElem hkM)] at hd
      have hlt : (M.take k).length = k := by rw [List.length_take]; omega
      have hnx : nextE (M.take k) (bodyP M[k]) = (M[k], 0) := by
        unfold nextE
        rw [hlt, if_neg (by omega), cutS_body hm.1]
        dsimp only
        rw [if_pos ⟨rfl, hm.1, hm.2⟩, if_neg (by rw [hd]; decide), if_neg]
        rintro ⟨h0, hl⟩
        have ha := hA (k - 1) (by omega)
        rw [show k - 1 + 1 = k by omega, getD_pr (List.getElem?_eq_getElem hkM)] at ha
        have e : (M.take k).getD (k - 1) pr0 = M.getD (k - 1) pr0 := by rw [List.getD_eq_getElem?_getD, List.getElem?_take_of_lt (by omega), List.getD_eq_getElem?_getD]
        rw [e, ha] at hl
        cases hl
      have := prsN_good h (by rw [hg, hnx])
      rw [hg, hnx] at this
      refine ⟨at_ + (bodyP M[k]).size + 1, this.trans ?_⟩
      rw [List.take_add_one, List.getElem?_eq_getElem hkM]
      rfl
  obtain ⟨at_, hp⟩ := hk M.length (Nat.le_refl _)
  rw [List.take_length] at hp
  unfold parseL
  rw [hs]
  dsimp only
  rw [List.headD_cons, List.tail_cons, if_pos hn, List.length_map, hp]
  dsimp only
  rw [if_neg (fun e => e rfl)]
end Go.Proofs.YtkgjkcfjkjkflaaDoor
