/- Layer 11: the document's find; texts parted by it, plainly; what is read has this very text. -/
import Derived.Test.YtkgjkcfjkjkflaaDoorAK
namespace Go.Proofs.YtkgjkcfjkjkflaaDoor
open Go.RowKit
attribute [local go_sem ↓] Go.wp_at_zero Go.wp_at_succ

/-- Where a byte is first, from a place on; the text's end: nowhere. -/
def findN (s : ByteArray) (i : Nat) (c : UInt8) : Nat := if ixB (s.extract i s.size) c = -1 then s.size else i + (ixB (s.extract i s.size) c).toNat
theorem toList_from (s : ByteArray) (i : Nat) : (s.extract i s.size).toList = s.toList.drop i := by
  rw [toList_extract, List.take_of_length_le (by rw [toList_size]; exact Nat.le_refl _)]
theorem mem_mid {s : ByteArray} {i j : Nat} {b : UInt8} (h : b ∈ (s.toList.drop i).take (j - i)) : ∃ k, i ≤ k ∧ k < j ∧ k < s.size ∧ chr s k = b.toNat := by
  obtain ⟨k, hk, e⟩ := List.getElem_of_mem h
  rw [List.getElem_take, List.getElem_drop] at e
  rw [List.length_take, List.length_drop, toList_size] at hk
  refine ⟨i + k, by omega, by omega, by omega, ?_⟩
  unfold chr
  rw [List.getD_eq_getElem?_getD, List.getElem?_eq_getElem (by rw [toList_size]; omega), e]
  rfl
theorem chr_ne {b c : UInt8} {n : Nat} (h : n = b.toNat) (hn : n ≠ c.toNat) : b ≠ c := fun e => hn (by rw [h, e])
theorem findN_is {s : ByteArray} {i j : Nat} {c : UInt8} (hi : i ≤ j) (hj : j ≤ s.size) (h : ∀ k, i ≤ k → k < j → chr s k ≠ c.toNat) (he : j = s.size ∨ chr s j = c.toNat) : findN s i c = j := by
  have hmid : ∀ b ∈ (s.toList.drop i).take (j - i), b ≠ c := fun b hb => by
    obtain ⟨k, h1, h2, _, h4⟩ := mem_mid hb
    exact chr_ne h4 (h k h1 h2)
  by_cases hjs : j = s.size
  · have hall : (s.toList.drop i).take (j - i) = s.toList.drop i := List.take_of_length_le (by rw [List.length_drop, toList_size]; omega)
    rw [hall] at hmid
    unfold findN
    rw [if_pos]
    · exact hjs.symm
    · exact indexByte_no (by rw [toList_from]; exact hmid)
  · have hjc := he.resolve_left hjs
    have hjl : j < s.toList.length := by rw [toList_size]; omega
    have hcut : s.toList.drop i = (s.toList.drop i).take (j - i) ++ c :: s.toList.drop (j + 1) := by
      have e : s.toList.drop j = c :: s.toList.drop (j + 1) := by
        rw [List.drop_eq_getElem_cons hjl]
        congr 1
        unfold chr at hjc
        rw [List.getD_eq_getElem?_getD, List.getElem?_eq_getElem hjl] at hjc
        exact UInt8.toNat_inj.1 hjc
      have e2 := (List.take_append_drop (j - i) (s.toList.drop i)).symm
      rw [List.drop_drop, Nat.add_sub_cancel' hi, e] at e2
      exact e2
    have hx : ixB (s.extract i s.size) c = ((j - i : Nat) : Int) := by
      unfold ixB
      rw [toList_from, hcut, indexByte_at hmid, List.length_take, List.length_drop, Nat.min_eq_left (by omega)]
    unfold findN
    rw [hx, if_neg (by omega)]
    omega
theorem findN_le (s : ByteArray) (i : Nat) (c : UInt8) (hi : i ≤ s.size) : i ≤ findN s i c ∧ findN s i c ≤ s.size := by
  unfold findN
  rcases ixB_cases (s.extract i s.size) c with h | ⟨o, h, ho⟩
  · rw [if_pos h]; exact ⟨hi, Nat.le_refl _⟩
  · have hz : (s.extract i s.size).size = s.size - i := by simp [ByteArray.size_extract]
    rw [h, if_neg (by omega)]
    omega
theorem indexByte_get {l : List UInt8} {c : UInt8} {o : Nat} (h : Lib.indexByte l c = (o : Int)) : l[o]? = some c := by
  induction l generalizing o with
  | nil => unfold Lib.indexByte at h; omega
  | cons b l ih =>
    unfold Lib.indexByte at h
    by_cases hb : (b == c) = true
    · rw [if_pos hb] at h
      obtain rfl : o = 0 := by omega
      rw [beq_iff_eq.1 hb]; rfl
    · rw [if_neg hb] at h
      split at h
      · omega
      · rename_i hne
        cases o with
        | zero =>
          exfalso
          have key : ∀ l : List UInt8, Lib.indexByte l c = -1 ∨ 0 ≤ Lib.indexByte l c := by
            intro l
            induction l with
            | nil => exact .inl rfl
            | cons b l ih =>
              unfold Lib.indexByte
              split
              · exact .inr (Int.le_refl _)
              · rcases ih with h | h
                · rw [h]; exact .inl rfl
                · split
                  · exact .inl rfl
                  · exact .inr (by omega)
          rcases key l with h2 | h2
          · exact hne (by rw [h2]; rfl)
          · omega
        | succ o =>
          rw [List.getElem?_cons_succ]
          exact ih (by omega)
theorem count_cut {l : List UInt8} {c : UInt8} {o : Nat} (h : l[o]? = some c) : (l.drop (o + 1)).count c + 1 ≤ l.count c := by
  obtain ⟨ho, e⟩ := List.getElem?_eq_some_iff.1 h
  have h1 : l.drop o = c :: l.drop (o + 1) := by rw [List.drop_eq_getElem_cons ho, e]
  have h2 : (l.drop o).count c ≤ l.count c := List.Sublist.count_le _ (List.drop_sublist _ _)
  rw [h1, List.count_cons_self] at h2
  exact h2
/-- A text from a place on, parted at the first mark from there. -/
theorem split_find {s : ByteArray} {c : UInt8} {a k : Nat} (ha : a ≤ s.size) (hk : (s.extract a s.size).toList.count c ≤ k) :
    splitS c k (s.extract a s.size) = s.extract a (findN s a c) :: (if findN s a c < s.size then splitS c (k - 1) (s.extract (findN s a c + 1) s.size) else []) ∧ (findN s a c < s.size → (s.extract (findN s a c + 1) s.size).toList.count c ≤ k - 1) := by
  have hz : (s.extract a s.size).size = s.size - a := by simp [ByteArray.size_extract]
  rcases ixB_cases (s.extract a s.size) c with h | ⟨o, h, ho⟩
  · have hf : findN s a c = s.size := by unfold findN; rw [if_pos h]
    rw [hf, if_neg (Nat.lt_irrefl _)]
    exact ⟨splitS_none k h, fun e => absurd e (Nat.lt_irrefl _)⟩
  · have hf : findN s a c = a + o := by unfold findN; rw [h, if_neg (by omega)]; omega
    have hg : (s.toList.drop a)[o]? = some c := by
      have := indexByte_get (show Lib.indexByte (s.extract a s.size).toList c = (o : Int) from h)
      rw [toList_from] at this
      exact this
    have hcc := count_cut hg
    rw [toList_from] at hk
    obtain ⟨k', rfl⟩ : ∃ k', k = k' + 1 := ⟨k - 1, by omega⟩
    rw [hf, if_pos (by omega)]
    refine ⟨?_, fun _ => ?_⟩
    · rw [splitS, h, if_neg (by omega), Int.toNat_natCast, Nat.add_sub_cancel]
      refine congr (congrArg List.cons ?_) (congrArg _ ?_)
      · apply bytes_eq
        rw [toList_extract, toList_from, toList_extract, List.drop_zero, List.drop_take, Nat.add_sub_cancel_left]
      · apply bytes_eq
        rw [toList_from, toList_from, toList_from, List.drop_drop, Nat.add_assoc]
    · rw [toList_from]
      rw [List.drop_drop] at hcc
      rw [Nat.add_assoc]
      omega
/-- A text cut at the first mark, by find. -/
theorem cut_find (s : ByteArray) (c : UInt8) : cutS s c = if findN s 0 c = s.size then (s, ByteArray.empty, false) else (s.extract 0 (findN s 0 c), s.extract (findN s 0 c + 1) s.size, true) := by
  have he : s.extract 0 s.size = s := by apply bytes_eq; rw [toList_from]; rfl
  unfold cutS findN
  rw [he]
  rcases ixB_cases s c with h | ⟨o, h, ho⟩
  · rw [if_pos h, if_pos h, if_pos rfl]
  · have hn : ¬ ((o : Int) = -1) := by omega
    have hn2 : ¬ (o = s.size) := by omega
    simp only [h, if_neg hn, Int.toNat_natCast, Nat.zero_add, if_neg hn2]

theorem chr_run {P : Program} {t : TypeId} (h : P.underlying t = some .string) (s : ByteArray) (i : Nat) (hi : i < s.size) : ∀ w, (Instr.index t (.string s) (.int .i64 (i : Int))).run P w = .ok (.int .u8 (chr s i : Int)) w := fun w => run_chr h s i hi w
set_option maxHeartbeats 2000000 in
theorem refFind_any (s : ByteArray) (i n : Nat) (c : UInt8) (hc : c.toNat = n) (hi : i ≤ s.size) (hs : s.size ≤ 1000000) (w : World) :
    Calls Tryd.prog 28 #[.string s, .int .i64 (i : Int), .int .u8 (n : Int)] w fun e w' => e = .returned (.int .i64 (findN s i c : Int)) ∧ w = w' := by
  have HFI : Hid (∀ j, i ≤ j → j ≤ s.size → (∀ k, i ≤ k → k < j → chr s k ≠ n) → (j = s.size ∨ chr s j = n) → findN s i c = j) := Lib.hid (fun j h1 h2 h3 h4 => findN_is h1 h2 (by rw [hc]; exact h3) (by rw [hc]; exact h4))
  obtain ⟨F, hF⟩ : ∃ F, F = findN s i c := ⟨_, rfl⟩
  rw [← hF] at HFI ⊢
  have HI := Lib.hid hi
  have HS := Lib.hid hs
  clear hF hc hi hs
  go_enter Tryd.func28, Tryd.ntmps28
  go_wp2
  go_loopg [1] (s.size - i) (fun g s1 wr => ∃ j : Nat, i ≤ j ∧ j ≤ s.size ∧ g = s.size - j ∧ s1 = .int .i64 j ∧ (∀ k, i ≤ k → k < j → chr s k ≠ n) ∧ w = wr)
  case atStart => exact ⟨i, Nat.le_refl _, HI.out, rfl, rfl, fun k h1 h2 => by omega, rfl⟩
  case round =>
    obtain ⟨j, hij, hjs, rfl, rfl, hno, rfl⟩ := hrel
    have HNO := Lib.hid hno
    have HIJ := Lib.hid hij
    clear hno hij
    by_cases hd : j < s.size
    · have hdi : (j : Int) < (s.size : Int) := by omega
      have hj0 : (0 : Int) ≤ (j : Int) := by omega
      have wj : IntKind.i64.wrap ((j : Int) + 1) = ((j + 1 : Nat) : Int) := by rw [IntWalk.i64_in _ ⟨by omega, by have := HS.out; omega⟩]; omega
      have hch := chr_run (P := Tryd.prog) Tryd.underlying9 s j hd
      have HD := Lib.hid hd
      by_cases he : chr s j = n
      · have q : ((chr s j : Int) != (n : Int)) = false := bneF (by omega)
        have HF := Lib.hid (HFI.out j HIJ.out hjs HNO.out (.inr he))
        clear hd hjs he
        go_wp2
        go_ret
        exact ⟨by rw [HF.out]; rfl, rfl⟩
      · have q : ((chr s j : Int) != (n : Int)) = true := bneT (by omega)
        have HE := Lib.hid he
        clear hd hjs he
        go_wp2
        go_roundg (s.size - (j + 1))
        case measure => have := HD.out; omega
        case rel => exact ⟨j + 1, by have := HIJ.out; omega, HD.out, rfl, rfl, fun k h1 h2 => by
          rcases Nat.lt_or_ge k j with h | h
          · exact HNO.out k h1 h
          · obtain rfl : k = j := by omega
            exact HE.out, rfl⟩
    · obtain rfl : j = s.size := by omega
      have hdi : ¬ (s.size : Int) < (s.size : Int) := by omega
      have HF := Lib.hid (HFI.out s.size HIJ.out hjs HNO.out (.inl rfl))
      clear hd hjs
      go_wp2
      go_ret
      exact ⟨by rw [HF.out]; rfl, rfl⟩
end Go.Proofs.YtkgjkcfjkjkflaaDoor
