/- Layer 18: all names of a disk, rising. -/
import Derived.Test.YtficodklidaheaaDoorS1
import Derived.Test.YtficodklidaheaaDoorIterLay
import Derived.Sort.KeysCollected
import Derived.CallsIn
namespace Go.Proofs.YtficodklidaheaaDoor
open Go.RowKit Go.Maps Go.Sort Go.Shelf
attribute [local go_sem ↓] Go.wp_at_zero Go.wp_at_succ

theorem sortsIt (m : Nat) : AnyZ.SortsIn Tryd.prog Tryd.sortedIt_ren Fence.wide m :=
  ⟨fun blk off cap ss W hH hblk hsz => callsIn_wide.2 (AnyM.slices_Sort_string Tryd.sortIt blk off cap ss W hH hblk hsz),
   fun p cap W => callsIn_wide.2 (AnyM.slices_Sort_string_none Tryd.sortIt p cap W)⟩
theorem mapsKeys_any (mb : Option Nat) (W : World) : CallsIn Fence.wide 5 Tryd.prog 93 #[.map mb] W fun e w' =>
    e = .returned (.func (.func 109) #[] #[.pointer (some ⟨W.heap.size, 0, none⟩)]) ∧ w' = W.alloc (.cells #[.map mb] 109) :=
  AnyZ.keys_in Tryd.keysIt Fence.wide 5 trivial rfl mb W
set_option maxHeartbeats 1000000 in
theorem sortedKeys_any {H : Type} (b nn : Nat) (D0 : DataW H) (R : Value → Option (DataW H × List MemPlace)) (w : World) (hown : w.ownsMap Tryd.prog 9 R b nn D0) (hmax : Maps.size D0 ≤ maxLen) (hbytes : Maps.size D0 * 16 ≤ 140737488355328) :
    CallsIn Fence.wide 5 Tryd.prog 92 #[.func (.func 109) #[] #[.pointer (some ⟨w.heap.size, 0, none⟩)]] (w.alloc (.cells #[.map (some b)] 109)) fun e w' =>
      ∃ (v : Value) (ss : List (List UInt8)), e = .returned v ∧ ss.Perm (strKeys D0) ∧
      w'.ownsRow (w.alloc (.cells #[.map (some b)] 109)).heap.size 9 1 v ss.length ((ss.mergeSort (fun x y => decide (x ≤ y))).map encStr) ∧ (v = .slice none 0 0 ↔ ss = []) ∧
      Below (w.alloc (.cells #[.map (some b)] 109)).heap.size (w.alloc (.cells #[.map (some b)] 109)) w' := by
  have hbl := hown.lt
  have hseq : SeqGives Fence.wide 2 Tryd.prog 109 #[.pointer (some ⟨w.heap.size, 0, none⟩)] encStr (fun ss => ss.Perm (strKeys D0)) (Maps.size D0) (w.alloc (.cells #[.map (some b)] 109)) :=
    AnyZ.keys_gives (ρ := Tryd.keysIt_ren) { Tryd.keysIt with } Fence.wide _ trivial rfl (by omega) w.heap.size b nn D0 _ (by simp) (by simp) (by
      obtain ⟨es, clock, hb, Ft, hs, hD⟩ := hown
      exact ⟨es, clock, (Below.heap_alloc _ _ b hbl).trans hb, Ft, hs, hD⟩)
  exact AnyZ.sorted_in Tryd.sortedIt Fence.wide 5 trivial trivial trivial trivial rfl (by omega) (sortsIt _) (enters_of Tryd.func108 (by kernel_rfl) rfl) 109 #[.pointer (some ⟨w.heap.size, 0, none⟩)] trivial
    (enters_of Tryd.func109 (by kernel_rfl) rfl) _ _ hmax hbytes _ hseq

/-- The order of the library's lists of bytes is Go's. -/
theorem le_less : ∀ x y : List UInt8, decide (x ≤ y) = !Op.bytesLess y x
  | [], y => by
    have : Op.bytesLess y [] = false := by cases y <;> rfl
    rw [this]
    simp
  | a :: x, [] => by
    have : Op.bytesLess [] (a :: x) = true := rfl
    rw [this]
    simp
  | a :: x, b :: y => by
    have ih := le_less x y
    have e : Op.bytesLess (b :: y) (a :: x) = (decide (b < a) || (b == a && Op.bytesLess y x)) := rfl
    rw [e]
    by_cases h : a = b
    · subst h
      simp only [lt_irrefl', decide_false, Bool.false_or, beq_self_eq_true, Bool.true_and]
      rw [← ih]
      refine decide_eq_decide.2 ?_
      rw [List.cons_le_cons_iff]
      simp
    · have h' : (b == a) = false := beq_eq_false_iff_ne.2 (Ne.symm h)
      rw [h', Bool.false_and, Bool.or_false]
      rcases UInt8.lt_or_lt_of_ne h with h1 | h1
      · have h2 : ¬ b < a := UInt8.lt_asymm h1
        simp [List.cons_le_cons_iff, h1, h2]
      · have h2 : ¬ a < b := UInt8.lt_asymm h1
        simp [List.cons_le_cons_iff, h1, h2, h]
where
  lt_irrefl' {a : UInt8} : (a < a) = False := by simp
def strs (L : List ByteArray) : List Value := L.map Value.string
theorem strs_length (L : List ByteArray) : (strs L).length = L.length := List.length_map ..
/-- The names of a disk. -/
def namesA (L : List (ByteArray × PF)) : List ByteArray := L.map (·.1)
theorem keys_sorted {L : List (ByteArray × PF)} (hL : Asc L) {ss : List (List UInt8)} (h : ss.Perm (L.map fun p => p.1.toList)) : (ss.mergeSort fun x y => decide (x ≤ y)).map encStr = strs (namesA L) := by
  have tr : ∀ a b c : List UInt8, leB a b = true → leB b c = true → leB a c = true := fun a b c h1 h2 => by simp only [leB, decide_eq_true_eq] at *; exact List.le_trans h1 h2
  have tot : ∀ a b : List UInt8, (leB a b || leB b a) = true := fun a b => by simp only [leB, Bool.or_eq_true, decide_eq_true_eq]; exact List.le_total a b
  have hs : (L.map fun p => p.1.toList).Pairwise fun a b => leB a b = true := by
    rw [List.pairwise_map]
    exact hL.imp fun h => by
      show decide (_ ≤ _) = true
      rw [le_less]
      rw [show Op.bytesLess _ _ = false from ltN_asym h]
      rfl
  have e : ss.mergeSort leB = L.map fun p => p.1.toList :=
    List.Perm.eq_of_pairwise (le := fun a b => leB a b = true) (fun a b _ _ h1 h2 => by
      simp only [leB, decide_eq_true_eq] at h1 h2
      exact List.le_antisymm h1 h2) (List.pairwise_mergeSort tr tot ss) hs ((List.mergeSort_perm ss leB).trans h)
  show (ss.mergeSort leB).map encStr = _
  rw [e]
  unfold strs namesA
  rw [List.map_map, List.map_map]
  refine List.map_congr_left (fun p _ => ?_)
  simp only [Function.comp, encStr]
  rw [ByteArray.toList_eq]
set_option maxHeartbeats 1000000 in
theorem dnames_any (base db mb : Nat) (L : List (ByteArray × Fi)) (D : DA) (w : World) (h : DK base w db mb L D) :
    Calls Tryd.prog 68 #[.pointer (some ⟨db, 0, none⟩)] w fun e w' => ∃ v, e = .returned v ∧ Mine w w' 9 v (strs (namesA D.L)) := by
  have c0 := h.c.1
  obtain ⟨D0, hown, es, hD, hp⟩ := h.map.owns Tryd.underlying9
  have hlen : es.length = L.length := by
    have := hp.length_eq
    simpa [mapM] using this
  have hsz : Maps.size D0 = L.length := by rw [hD]; exact hlen
  have hc := h.ok.count
  have hl := h.len
  have hmax : Maps.size D0 ≤ maxLen := by rw [hsz, hl]; unfold maxLen; omega
  have hbytes : Maps.size D0 * 16 ≤ 140737488355328 := by rw [hsz, hl]; omega
  have hkeys : (strKeys D0).Perm (D.L.map fun p => p.1.toList) := by
    rw [hD]
    show (es.map fun p => strOf p.1).Perm _
    have h1 := hp.map fun p => strOf p.1
    have h2 := h.perm.map fun p => p.1.toList
    refine h1.trans ?_
    refine List.Perm.trans (List.Perm.of_eq ?_) h2
    unfold mapM
    rw [List.map_map, List.map_map, List.map_map]
    refine List.map_congr_left (fun p _ => ?_)
    simp only [Function.comp, strOf]
    rw [ByteArray.toList_eq]
  have HA := Lib.hid h.ok.asc
  have HKS := Lib.hid hkeys
  clear hD hp hlen hsz hc hl h hkeys
  refine (callsIn_wide (n := 6)).1 ?_
  have hfK : Fence.wide.fn 93 := trivial
  have hfS : Fence.wide.fn 92 := trivial
  refine callsIn_of_wp Tryd.func68 rfl trivial ?_ rfl
  simp only [Tryd.ntmps68, List.size_toArray, List.length_cons, List.length_nil, Nat.reduceAdd, Nat.reduceSub, Array.replicate_succ, Array.replicate_zero, List.push_toArray, List.append_toArray, List.nil_append, List.cons_append]
  gi_wp2_with (first
    | (gi_at_call 93; refine (mapsKeys_any _ _).mono ?_; rintro e w' ⟨rfl, rfl⟩)
    | (gi_at_call 92; refine (sortedKeys_any mb _ D0 _ w hown hmax hbytes).mono ?_; rintro e w' ⟨v, ss, rfl, hS, hrow, hnil, hb⟩))
  go_ret
  have hbs : w.heap.size ≤ (w.alloc (.cells #[.map (some mb)] 109)).heap.size := by simp
  have hk : Kept (fun _ => False) w w' := ((Kept.refl (fun _ => False) w).alloc _).step (S' := fun k => _ ≤ k) (Kept.ofBelow hb) (fun k hk x => by omega)
  rw [keys_sorted HA.out (hS.trans HKS.out)] at hrow
  exact ⟨v, rfl, Mine.ofFresh (ownsRow_base_a hrow (by simp)) hk⟩
end Go.Proofs.YtficodklidaheaaDoor
