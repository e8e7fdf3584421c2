/- Layer 12: plain facts of points' bytes and keys. -/
import Derived.Test.YteflepcmblacaaaGreatDoorI17
import Derived.Test.YteflepcmblacaaaGreatDoorI15
import Derived.Test.YteflepcmblacaaaGreatDoorI12
namespace Go.Proofs.YteflepcmblacaaaGreatDoor
open Go.RowKit

theorem textN_size2 (name : ByteArray) (M : List Pr) (i : Nat) (hM : Sh 32 M) (hi : i ≤ M.length) : (textN name M i).size ≤ name.size + i * 66 := by
  induction i with
  | zero => unfold textN; omega
  | succ i ih =>
    unfold textN
    rw [size_append, partP_size, getD_pr (List.getElem?_eq_getElem (by omega))]
    have := ih (by omega)
    have := hM _ (List.getElem_mem (show i < M.length by omega))
    omega
theorem txt_small {x : Pnt} (h : x.right) : (txt x).size ≤ 400 := by
  obtain ⟨h1, h2, h3, _⟩ := checkE_facts h.lab
  have e : txt x = textN x.name (sortP x.L) x.L.length := by
    unfold txt textT
    rw [if_neg (fun e => e h.lab)]
  have hn := (of_decide_eq_true h1).1
  have hs := textN_size2 x.name (sortP x.L) x.L.length (fun p hp => by
    obtain ⟨a, b⟩ := h3 p ((sortP_perm x.L).mem_iff.1 hp)
    exact ⟨(of_decide_eq_true a).1.2, (of_decide_eq_true b).1.2⟩) (by rw [(sortP_perm x.L).length_eq]; exact Nat.le_refl _)
  rw [e]
  omega
theorem nums_byte {l : List Int} (h : ∀ z ∈ l, 0 ≤ z ∧ z ≤ 18446744073709551615) : ∀ z ∈ numsI l, 0 ≤ z ∧ z < 256 := by
  intro z hz
  unfold numsI at hz
  obtain ⟨v, hv, hz⟩ := List.mem_flatMap.1 hz
  exact numB_byte v (h v hv).1 (h v hv).2 z hz
theorem side_byte {o : Int} {l : List Nat} (ho : I64 o) (hl : l.length ≤ 1000000) (hb : ∀ x ∈ l, x < 18446744073709551616) : ∀ z ∈ sideB o l, 0 ≤ z ∧ z < 256 := by
  intro z hz
  unfold sideB at hz
  unfold I64 at ho
  have hzr := zigI_range o ho.1 ho.2
  rcases List.mem_append.1 hz with h | h
  · exact numB_byte _ (by omega) (by omega) z h
  rcases List.mem_append.1 h with h | h
  · split at h
    · cases h
    · exact numB_byte _ hzr.1 hzr.2 z h
  · unfold numsB at h
    obtain ⟨v, hv, h⟩ := List.mem_flatMap.1 h
    have := hb v hv
    exact numB_byte _ (by omega) (by omega) z h
theorem value_byte {x : Pnt} (hok : x.ok) (hli : x.light) : ∀ z ∈ bytesV x, 0 ≤ z ∧ z < 256 := by
  intro z hz
  have hw := hok.whole
  have hs := hok.h.sc
  unfold I64 at hw
  have h1 := zigI_range x.whole hw.1 hw.2
  have h2 := zigI_range x.h.sc hs.1 hs.2
  have h3 := hok.h.ze
  unfold bytesV at hz
  split at hz
  · exact numB_byte _ h1.1 h1.2 z hz
  split at hz
  · exact fixB_byte _ z hz
  split at hz
  · rcases List.mem_append.1 hz with h | h <;> exact fixB_byte _ z h
  split at hz
  · rcases List.mem_append.1 hz with h | h
    · exact numB_byte _ h2.1 h2.2 z h
    rcases List.mem_append.1 h with h | h
    · exact numB_byte _ (by omega) (by omega) z h
    rcases List.mem_append.1 h with h | h
    · exact side_byte hok.h.po (by have := hli.pl; omega) hok.h.pl z h
    · exact side_byte hok.h.no (by have := hli.nl; omega) hok.h.nl z h
  · cases hz
theorem pntB_byte {x : Pnt} (h : x.right) (hok : x.ok) (hli : x.light) : ∀ z ∈ pntB x, 0 ≤ z ∧ z < 256 := by
  intro z hz
  unfold pntB at hz
  have hk := h.kinds
  have ht := h.time
  have hf := h.flags
  have hs := txt_small h
  have hm : 0 ≤ monoI x.mono ∧ monoI x.mono ≤ 1 := by unfold monoI; split <;> omega
  rcases List.mem_append.1 hz with h' | h'
  · rcases List.mem_append.1 h' with h' | h'
    · rcases List.mem_append.1 h' with h' | h'
      · exact numB_byte _ (by omega) (by omega) z h'
      · exact strB_byte _ z h'
    · refine nums_byte (fun v hv => ?_) z h'
      unfold heads at hv
      simp only [List.mem_cons, List.not_mem_nil, or_false] at hv
      rcases hv with rfl | rfl | rfl | rfl | rfl | rfl <;> omega
  · exact value_byte hok hli z h'
theorem sortP_id {M : List Pr} (h : Adj M) : sortP M = M := by
  have key : ∀ k, k ≤ M.length → sortP (M.take k) = M.take k := by
    intro k
    induction k with
    | zero => intro _; rfl
    | succ k ih =>
      intro hk
      have hk' : k < M.length := by omega
      have e : M.take (k + 1) = M.take k ++ [M.getD k pr0] := by
        rw [List.take_add_one, List.getElem?_eq_getElem hk', List.getD_eq_getElem?_getD, List.getElem?_eq_getElem hk']
        rfl
      rw [e, sortP_snoc, ih (by omega)]
      have hl : (M.take k).length = k := by rw [List.length_take]; omega
      have hp : plc (M.take k) (M.getD k pr0) (M.take k).length = k := by
        rw [hl]
        cases k with
        | zero => rfl
        | succ j =>
          have hj : (M.take (j + 1)).getD j pr0 = M.getD j pr0 := by
            rw [List.getD_eq_getElem?_getD, List.getD_eq_getElem?_getD, List.getElem?_take, if_pos (by omega)]
          unfold plc
          rw [hj, h j (by omega)]
          simp
      unfold insP
      rw [hp, List.take_of_length_le (by omega), List.drop_of_length_le (by omega)]
  have := key M.length (Nat.le_refl _)
  rwa [List.take_length] at this
theorem sort_sort (L : List Pr) : sortP (sortP L) = sortP L := sortP_id (sortP_adj L)
theorem sameP_sort (x : Pnt) : sameP x { x with L := sortP x.L } = true := by
  unfold sameP plainB
  have h1 : sameL (sortP x.L) (sortP (sortP x.L)) = true := (sameL_iff _ _).2 (sort_sort x.L).symm
  have h2 : decide (sameH x.h x.h) = true := decide_eq_true ((sameH_iff _ _).2 rfl)
  simp [h1, h2]
theorem sameP_self (x : Pnt) : sameP x x = true := by
  unfold sameP plainB
  have h1 : sameL (sortP x.L) (sortP x.L) = true := (sameL_iff _ _).2 rfl
  have h2 : decide (sameH x.h x.h) = true := decide_eq_true ((sameH_iff _ _).2 rfl)
  simp [h1, h2]
/-- Do two points belong to one series? -/
def alikeP (x y : Pnt) : Bool := (x.name.toList == y.name.toList) && ((x.kind == y.kind) && ((x.temp == y.temp) && ((x.mono == y.mono) && sameL (sortP x.L) (sortP y.L))))
theorem key_bytes {x : Pnt} (h : x.right) : ∀ z ∈ [32, 48 + x.kind, 48 + x.temp, 48 + monoI x.mono], (0 : Int) ≤ z ∧ z < 256 := by
  have hk := h.kinds
  have hm : 0 ≤ monoI x.mono ∧ monoI x.mono ≤ 1 := by unfold monoI; split <;> omega
  intro z hz
  simp only [List.mem_cons, List.not_mem_nil, or_false] at hz
  rcases hz with rfl | rfl | rfl | rfl <;> omega
theorem text_of {x : Pnt} (h : x.right) : textT x.name x.L = (txt x, 0) := by
  unfold txt
  refine Prod.ext rfl ?_
  rw [textT_snd]
  exact h.lab
theorem key_alike {x y : Pnt} (hx : x.right) (hy : y.right) : ((keyT x).toList == (keyT y).toList) = alikeP x y := by
  have ht := text_same (text_of hx) (text_of hy)
  unfold alikeP
  rw [Bool.eq_iff_iff] at ht ⊢
  simp only [Bool.and_eq_true, beq_iff_eq] at ht ⊢
  unfold keyT
  rw [toList_append, toList_append]
  constructor
  · intro e
    obtain ⟨e1, e2⟩ := List.append_inj' e (by rw [toList_size, toList_size, strOf_size, strOf_size]; rfl)
    have e3 : strOfNums [32, 48 + x.kind, 48 + x.temp, 48 + monoI x.mono] = strOfNums [32, 48 + y.kind, 48 + y.temp, 48 + monoI y.mono] := bytes_eq e2
    have e4 := congrArg strB e3
    rw [strB_strOf (key_bytes hx), strB_strOf (key_bytes hy)] at e4
    injection e4 with _ e4
    injection e4 with e5 e4
    injection e4 with e6 e4
    injection e4 with e7 _
    obtain ⟨h1, h2⟩ := ht.1 e1
    refine ⟨h1, by omega, by omega, ?_, h2⟩
    unfold monoI at e7
    cases hxm : x.mono <;> cases hym : y.mono <;> rw [hxm, hym] at e7 <;> simp at e7 ⊢
  · rintro ⟨h1, h2, h3, h4, h5⟩
    rw [ht.2 ⟨h1, h5⟩, h2, h3, h4]
end Go.Proofs.YteflepcmblacaaaGreatDoor
