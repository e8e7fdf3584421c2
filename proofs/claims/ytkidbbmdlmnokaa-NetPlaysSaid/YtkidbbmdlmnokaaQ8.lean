/- Plain facts: what is read behind what was put down. -/
import Derived.Test.YtkidbbmdlmnokaaQ7
import Derived.Test.YtkidbbmdlmnokaaQ3
namespace Go.Proofs.Ytkidbbmdlmnokaa
open Go.RowKit

theorem strOf_strB (s : ByteArray) : strOfNums (strB s) = s := by
  unfold strOfNums strB
  obtain ⟨⟨l⟩⟩ := s
  congr 1
  have : (l.map fun (b : UInt8) => (b.toNat : Int)).map (fun n => UInt8.ofNat n.toNat) = l := by
    rw [List.map_map]
    refine (List.map_congr_left (g := id) (fun b _ => ?_)).trans (List.map_id l)
    simp
  rw [this]
theorem strB_byte (s : ByteArray) : ∀ x ∈ strB s, 0 ≤ x ∧ x < 256 := by
  intro x hx
  unfold strB at hx
  obtain ⟨b, _, rfl⟩ := List.mem_map.1 hx
  have := b.toNat_lt
  omega
theorem numB_byte (v : Int) (h0 : 0 ≤ v) (h1 : v ≤ 18446744073709551615) : ∀ x ∈ numB v, 0 ≤ x ∧ x < 256 := by
  intro x hx
  unfold numB at hx
  rcases List.mem_cons.1 hx with rfl | hx
  · exact ⟨(first_lo v h0 h1).2.2.1, (first_lo v h0 h1).2.2.2⟩
  · unfold restB at hx
    obtain ⟨j, _, rfl⟩ := List.mem_map.1 hx
    exact byteI_range _ _
theorem fixB_byte (v : Int) : ∀ x ∈ fixB v, 0 ≤ x ∧ x < 256 := by
  intro x hx
  unfold fixB fixK at hx
  obtain ⟨j, _, rfl⟩ := List.mem_map.1 hx
  exact byteI_range _ _
theorem wordB_byte (r : WRec) (hn : -9223372036854775808 ≤ r.n ∧ r.n ≤ 9223372036854775807) (hv : 0 ≤ r.v ∧ r.v ≤ 18446744073709551615) (hs : r.s.size ≤ 300) : ∀ x ∈ wordB r, 0 ≤ x ∧ x < 256 := by
  intro x hx
  unfold wordB at hx
  split at hx
  · exact numB_byte _ hv.1 hv.2 x hx
  · split at hx
    · have := zigI_range r.n hn.1 hn.2
      exact numB_byte _ this.1 this.2 x hx
    · split at hx
      · exact fixB_byte _ x hx
      · split at hx
        · rcases List.mem_append.1 hx with hx | hx
          · exact numB_byte _ (by omega) (by omega) x hx
          · exact strB_byte _ x hx
        · split at hx
          · exact strB_byte _ x hx
          · cases hx
theorem wordB_len (r : WRec) (hs : r.s.size ≤ 300) : (wordB r).length ≤ 400 := by
  unfold wordB
  split
  · have := numB_len r.v; omega
  · split
    · have := numB_len (zigI r.n); omega
    · split
      · simp [fixB]
      · split
        · rw [List.length_append, strB_length]; have := numB_len r.s.size; omega
        · split
          · rw [strB_length]; omega
          · simp

theorem next_back (l bs rest : List Int) (t : Nat) (n : Int) (hn : n = bs.length) (h : l.drop t = bs ++ rest) (ht : t ≤ l.length) : nextF l t 0 n = (bs, bs.length, 0) := by
  subst hn
  have hlen : l.length - t = bs.length + rest.length := by
    have := congrArg List.length h
    rw [List.length_drop, List.length_append] at this; exact this
  unfold nextF
  rw [if_neg (by simp), if_neg (by omega), if_neg (by omega), Int.toNat_natCast, h, List.take_append_of_le_length (Nat.le_refl _), List.take_of_length_le (Nat.le_refl _)]
theorem leV_append (a b : List Int) (k : Nat) (h : k ≤ a.length) : leV (a ++ b) k = leV a k := by
  induction k with
  | zero => rfl
  | succ k ih =>
    unfold leV
    rw [ih (by omega), List.getD_eq_getElem?_getD, List.getElem?_append_left (by omega), List.getD_eq_getElem?_getD]
theorem fix_back (l rest : List Int) (t : Nat) (v : Int) (h0 : 0 ≤ v) (h1 : v ≤ 18446744073709551615) (h : l.drop t = fixB v ++ rest) (ht : t ≤ l.length) : fixF l t 0 = (v, 8, 0) := by
  have hl : (fixB v).length = 8 := by simp [fixB]
  have hn := next_back l (fixB v) rest t 8 (by rw [hl]; rfl) h ht
  unfold fixF
  rw [hn, if_neg (by simp), h, leV_append _ _ _ (by omega), leV_fixB v h0 h1]
theorem text_back (l rest : List Int) (t : Nat) (s : ByteArray) (hs : s.size ≤ 300) (h : l.drop t = numB s.size ++ strB s ++ rest) (ht : t ≤ l.length) : textF l t 0 300 = (strB s, (numB s.size ++ strB s).length, 0) := by
  have hlk : lookE l t 0 = ((s.size : Int), 1 + oth s.size, 0) := by
    unfold lookE
    rw [if_pos rfl]
    exact lookF_numB l (strB s ++ rest) t s.size (by omega) (by omega) (by rw [h, List.append_assoc])
  have hc : countF l t 0 300 = ((s.size : Int), 1 + oth s.size, 0) := by
    unfold countF
    rw [hlk, if_neg (by simp only; omega)]
  have hlen : l.length - t = 1 + oth s.size + s.size + rest.length := by
    have := congrArg List.length h
    rw [List.length_drop, List.length_append, List.length_append, numB_length, strB_length] at this; exact this
  have hd : l.drop (t + (1 + oth s.size)) = strB s ++ rest := by
    rw [← List.drop_drop, h, List.append_assoc]
    have e : 1 + oth s.size = (numB s.size).length := by rw [numB_length]
    rw [e, List.drop_left]
  have hn := next_back l (strB s) rest (t + (1 + oth s.size)) s.size (by rw [strB_length]) hd (by omega)
  unfold textF
  rw [hc]
  simp only
  rw [hn, if_neg (by simp), List.length_append, numB_length]
theorem num_back (l rest : List Int) (t : Nat) (v : Int) (h0 : 0 ≤ v) (h1 : v ≤ 18446744073709551615) (h : l.drop t = numB v ++ rest) : lookE l t 0 = (v, (numB v).length, 0) := by
  unfold lookE
  rw [if_pos rfl, numB_length]
  exact lookF_numB l rest t v h0 h1 h
/-- The bytes of words. -/
def wordsB (rs : List WRec) : List Int := rs.flatMap wordB
theorem wordsB_snoc (rs : List WRec) (i : Nat) (hi : i < rs.length) : wordsB (rs.take (i + 1)) = wordsB (rs.take i) ++ wordB rs[i] := by
  unfold wordsB
  rw [List.take_add_one, List.getElem?_eq_getElem hi, List.flatMap_append]
  simp only [Option.toList, List.flatMap_cons, List.flatMap_nil, List.append_nil]
theorem wordsB_drop (rs : List WRec) (i : Nat) (hi : i < rs.length) : wordsB (rs.drop i) = wordB rs[i] ++ wordsB (rs.drop (i + 1)) := by
  unfold wordsB
  rw [List.drop_eq_getElem_cons hi, List.flatMap_cons]
theorem drop_more {l a b : List Int} {t : Nat} (h : l.drop t = a ++ b) : l.drop (t + a.length) = b := by
  rw [← List.drop_drop, h, List.drop_left]
theorem RdAt.less {T E : TypeId} {w : World} {B B' p : Nat} {v : Value} {l : List Int} {t : Nat} {e : Int} (h : RdAt T E w B p v l t e) (hb : B' ≤ B) : RdAt T E w B' p v l t e :=
  ⟨Nat.le_trans hb h.base, h.box, wown_base h.owns hb, h.apart, h.taken, h.byte⟩
end Go.Proofs.Ytkidbbmdlmnokaa
