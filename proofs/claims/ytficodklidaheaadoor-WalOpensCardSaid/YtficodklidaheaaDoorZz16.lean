/- Texts put together: IterLay, S2. -/
import Derived.Shelf.SlIter.Nil
import Derived.Shelf.SortM.Plain
import Derived.Shelf.SortM.SortNone
import Derived.Ground.GgzProg
import Derived.Ground.SlgmProg
import Derived.Test.YtficodklidaheaaDoorProg
import Derived.Test.YtficodklidaheaaDoorZz10
import Derived.Sort.KeysCollected
import Derived.CallsIn
import Derived.Test.YtficodklidaheaaDoorZz15
/-
  DERIVED: THE SHELF's CONTRACTS AT THIS DUMP, IN PLAIN WORDS (tools/lay-plain.mjs out of 'TrydIterLay.lean', which tools/lay-shelf.mjs wrote): THE SAME DECLARATIONS UNDER THE SAME NAMES: 'import', 'namespace', 'open', 'def', 'theorem' AND NOTHING ELSE: no command of the shelf's: FOR A HAND-IN. Each laying: the table of numbers ('.._ren') and one theorem, a field a fact of the dump's own or the kernel's comparison; each contract: ONE APPLICATION.
-/
namespace Go.Proofs
open Go.Shelf
def Tryd.keysIt_ren : Go.Shelf.Ren := ⟨fun | 7 => 93 | 10 => 109 | n => n, fun | 23 => 109 | 26 => 9 | 3 => 114 | 28 => 146 | 0 => 0 | 27 => 145 | 33 => 112 | 4 => 4 | n => n, fun | n => n⟩
theorem Tryd.keysIt : Go.Proofs.SlLaysZ.n7 Tryd.prog Tryd.keysIt_ren := {
  mixed := by kernel_rfl
  f7 := ⟨Tryd.f93.name, by decide, Tryd.func93.trans (congrArg some (by kernel_rfl))⟩
  f10 := ⟨Tryd.f109.name, by decide, Tryd.func109.trans (congrArg some (by kernel_rfl))⟩
  t0 := Tryd.underlying0
  a0 := Tryd.isAgg0
  z0 := Tryd.sizeOf0
  v0 := Tryd.zeroValue0
  t4 := Tryd.underlying4
  a4 := Tryd.isAgg4
  z4 := Tryd.sizeOf4
  v4 := Tryd.zeroValue4
  t23 := Tryd.underlying109
  a23 := Tryd.isAgg109
  z23 := Tryd.sizeOf109
  v23 := Tryd.zeroValue109
  t26 := Tryd.underlying9
  a26 := Tryd.isAgg9
  z26 := Tryd.sizeOf9
  v26 := Tryd.zeroValue9
  t27 := Tryd.underlying145
  a27 := Tryd.isAgg145
  z27 := Tryd.sizeOf145
  v27 := Tryd.zeroValue145
  t28 := Tryd.underlying146
  a28 := Tryd.isAgg146
  z28 := Tryd.sizeOf146
  v28 := Tryd.zeroValue146
  t33 := Tryd.underlying112
  a33 := Tryd.isAgg112
  z33 := Tryd.sizeOf112
  v33 := Tryd.zeroValue112 }
def Tryd.sortedIt_ren : Go.Shelf.Ren := ⟨fun | 6 => 92 | 8 => 107 | 9 => 108 | 11 => 111 | 13 => 113 | 12 => 112 | 23 => 123 | 24 => 124 | 14 => 114 | 15 => 115 | 16 => 116 | 17 => 117 | 18 => 118 | 19 => 119 | 20 => 120 | 21 => 121 | 22 => 122 | 25 => 125 | 26 => 126 | 27 => 127 | 28 => 128 | 29 => 129 | 30 => 130 | 31 => 131 | n => n, fun | 26 => 9 | 28 => 146 | 24 => 53 | 0 => 0 | 3 => 3 | 37 => 141 | 48 => 104 | 50 => 132 | 4 => 4 | 40 => 163 | 39 => 162 | 45 => 168 | 5 => 5 | 9 => 9 | 51 => 172 | 55 => 175 | 57 => 177 | 58 => 178 | 33 => 112 | n => n, fun | n => n⟩
theorem Tryd.sortedIt : Go.Proofs.SlLaysZ.n6 Tryd.prog Tryd.sortedIt_ren := {
  mixed := by kernel_rfl
  f6 := ⟨Tryd.f92.name, by decide, Tryd.func92.trans (congrArg some (by kernel_rfl))⟩
  f8 := ⟨Tryd.f107.name, by decide, Tryd.func107.trans (congrArg some (by kernel_rfl))⟩
  f11 := ⟨Tryd.f111.name, by decide, Tryd.func111.trans (congrArg some (by kernel_rfl))⟩
  t0 := Tryd.underlying0
  a0 := Tryd.isAgg0
  z0 := Tryd.sizeOf0
  v0 := Tryd.zeroValue0
  t24 := Tryd.underlying53
  a24 := Tryd.isAgg53
  z24 := Tryd.sizeOf53
  v24 := Tryd.zeroValue53
  t26 := Tryd.underlying9
  a26 := Tryd.isAgg9
  z26 := Tryd.sizeOf9
  v26 := Tryd.zeroValue9
  t28 := Tryd.underlying146
  a28 := Tryd.isAgg146
  z28 := Tryd.sizeOf146
  v28 := Tryd.zeroValue146
  i26 := by kernel_rfl }
def Tryd.sortIt_ren : Go.Shelf.Ren := ⟨fun | 6 => 108 | 8 => 113 | 9 => 112 | 19 => 123 | 20 => 124 | 21 => 114 | 22 => 115 | 23 => 116 | 24 => 117 | 25 => 118 | 26 => 119 | 27 => 120 | 28 => 121 | 29 => 122 | 36 => 125 | 31 => 126 | 32 => 127 | 37 => 128 | 38 => 129 | 39 => 130 | 41 => 131 | n => n, fun | 27 => 53 | 29 => 9 | 3 => 3 | 32 => 141 | 26 => 53 | 0 => 0 | 44 => 104 | 46 => 132 | 4 => 4 | 36 => 163 | 35 => 162 | 41 => 168 | 5 => 5 | 9 => 9 | 53 => 172 | 57 => 175 | 63 => 177 | 64 => 178 | n => n, fun | n => n⟩
theorem Tryd.sortIt : Go.Proofs.SlLaysM.n6 Tryd.prog Tryd.sortIt_ren := {
  mixed := by kernel_rfl
  f6 := ⟨Tryd.f108.name, by decide, Tryd.func108.trans (congrArg some (by kernel_rfl))⟩
  f8 := Tryd.func113.trans (congrArg some (by kernel_rfl))
  f9 := ⟨Tryd.f112.name, by decide, Tryd.func112.trans (congrArg some (by kernel_rfl))⟩
  f19 := Tryd.func123.trans (congrArg some (by kernel_rfl))
  f20 := Tryd.func124.trans (congrArg some (by kernel_rfl))
  f21 := ⟨Tryd.f114.name, by decide, Tryd.func114.trans (congrArg some (by kernel_rfl))⟩
  f22 := ⟨Tryd.f115.name, by decide, Tryd.func115.trans (congrArg some (by kernel_rfl))⟩
  f23 := ⟨Tryd.f116.name, by decide, Tryd.func116.trans (congrArg some (by kernel_rfl))⟩
  f24 := ⟨Tryd.f117.name, by decide, Tryd.func117.trans (congrArg some (by kernel_rfl))⟩
  f25 := ⟨Tryd.f118.name, by decide, Tryd.func118.trans (congrArg some (by kernel_rfl))⟩
  f26 := ⟨Tryd.f119.name, by decide, Tryd.func119.trans (congrArg some (by kernel_rfl))⟩
  f27 := ⟨Tryd.f120.name, by decide, Tryd.func120.trans (congrArg some (by kernel_rfl))⟩
  f28 := ⟨Tryd.f121.name, by decide, Tryd.func121.trans (congrArg some (by kernel_rfl))⟩
  f29 := ⟨Tryd.f122.name, by decide, Tryd.func122.trans (congrArg some (by kernel_rfl))⟩
  f31 := Tryd.func126.trans (congrArg some (by kernel_rfl))
  f32 := Tryd.func127.trans (congrArg some (by kernel_rfl))
  f36 := ⟨Tryd.f125.name, by decide, Tryd.func125.trans (congrArg some (by kernel_rfl))⟩
  f37 := ⟨Tryd.f128.name, by decide, Tryd.func128.trans (congrArg some (by kernel_rfl))⟩
  f38 := ⟨Tryd.f129.name, by decide, Tryd.func129.trans (congrArg some (by kernel_rfl))⟩
  f39 := ⟨Tryd.f130.name, by decide, Tryd.func130.trans (congrArg some (by kernel_rfl))⟩
  f41 := ⟨Tryd.f131.name, by decide, Tryd.func131.trans (congrArg some (by kernel_rfl))⟩
  t0 := Tryd.underlying0
  a0 := Tryd.isAgg0
  z0 := Tryd.sizeOf0
  v0 := Tryd.zeroValue0
  t3 := Tryd.underlying3
  a3 := Tryd.isAgg3
  z3 := Tryd.sizeOf3
  v3 := Tryd.zeroValue3
  t4 := Tryd.underlying4
  a4 := Tryd.isAgg4
  z4 := Tryd.sizeOf4
  v4 := Tryd.zeroValue4
  t5 := Tryd.underlying5
  a5 := Tryd.isAgg5
  z5 := Tryd.sizeOf5
  v5 := Tryd.zeroValue5
  t9 := Tryd.underlying9
  a9 := Tryd.isAgg9
  z9 := Tryd.sizeOf9
  v9 := Tryd.zeroValue9
  t26 := Tryd.underlying53
  a26 := Tryd.isAgg53
  z26 := Tryd.sizeOf53
  v26 := Tryd.zeroValue53
  t27 := Tryd.underlying53
  a27 := Tryd.isAgg53
  z27 := Tryd.sizeOf53
  v27 := Tryd.zeroValue53
  t29 := Tryd.underlying9
  a29 := Tryd.isAgg9
  z29 := Tryd.sizeOf9
  v29 := Tryd.zeroValue9
  t32 := Tryd.underlying141
  a32 := Tryd.isAgg141
  z32 := Tryd.sizeOf141
  v32 := Tryd.zeroValue141
  t35 := Tryd.underlying162
  a35 := Tryd.isAgg162
  z35 := Tryd.sizeOf162
  v35 := Tryd.zeroValue162
  t36 := Tryd.underlying163
  a36 := Tryd.isAgg163
  z36 := Tryd.sizeOf163
  v36 := Tryd.zeroValue163
  t41 := Tryd.underlying168
  a41 := Tryd.isAgg168
  z41 := Tryd.sizeOf168
  v41 := Tryd.zeroValue168
  t44 := Tryd.underlying104
  a44 := Tryd.isAgg104
  z44 := Tryd.sizeOf104
  v44 := Tryd.zeroValue104
  t46 := Tryd.underlying132
  a46 := Tryd.isAgg132
  z46 := Tryd.sizeOf132
  v46 := Tryd.zeroValue132
  t53 := Tryd.underlying172
  a53 := Tryd.isAgg172
  z53 := Tryd.sizeOf172
  v53 := Tryd.zeroValue172
  t57 := Tryd.underlying175
  a57 := Tryd.isAgg175
  z57 := Tryd.sizeOf175
  v57 := Tryd.zeroValue175
  t63 := Tryd.underlying177
  a63 := Tryd.isAgg177
  z63 := Tryd.sizeOf177
  v63 := Tryd.zeroValue177
  t64 := Tryd.underlying178
  a64 := Tryd.isAgg178
  z64 := Tryd.sizeOf178
  v64 := Tryd.zeroValue178 }
end Go.Proofs
/- Layer 18: all names of a disk, rising. -/
namespace Go.Proofs.YtficodklidaheaaDoor
open Go.RowKit Go.Maps Go.Sort Go.Shelf
attribute [local go_sem ↓] Go.wp_at_zero Go.wp_at_succ

theorem sortsIt (m : Nat) : AnyZ.SortsIn Tryd.prog Tryd.sortedIt_ren Fence.wide m :=
  ⟨fun blk off cap ss W hH hblk hsz => callsIn_wide.2 (AnyM.slices_Sort_string Tryd.sortIt blk off cap ss W hH hblk hsz),
   fun p cap W => callsIn_wide.2 (AnyM.slices_Sort_string_none Tryd.sortIt p cap W)⟩
theorem mapsKeys_any (mb : Option Nat) (W : World) : CallsIn Fence.wide 5 Tryd.prog 93 #[.map mb] W fun e w' =>
    e = .returned (.func (.func 109) #[] #[.pointer (some ⟨W.heap.size, 0, none⟩)]) ∧ w' = W.alloc (.cells #[.map mb] 109) :=
  AnyZ.keys_in Tryd.keysIt Fence.wide 5 trivial rfl mb W
set_option maxHeartbeats 1000000 in
theorem sortedKeys_any {H : Type} (b nn : Nat) (D0 : DataW H) (R : Value → Option (DataW H × List MemPlace)) (w : World) (hown : w.ownsMap Tryd.prog 9 R b nn D0) (hmax : Maps.size D0 ≤ maxLen) (hbytes : Maps.size D0 * 16 ≤ 140737488355328) :
    CallsIn Fence.wide 5 Tryd.prog 92 #[.func (.func 109) #[] #[.pointer (some ⟨w.heap.size, 0, none⟩)]] (w.alloc (.cells #[.map (some b)] 109)) fun e w' =>
      ∃ (v : Value) (ss : List (List UInt8)), e = .returned v ∧ ss.Perm (strKeys D0) ∧
      w'.ownsRow (w.alloc (.cells #[.map (some b)] 109)).heap.size 9 1 v ss.length ((ss.mergeSort (fun x y => decide (x ≤ y))).map encStr) ∧ (v = .slice none 0 0 ↔ ss = []) ∧
      Below (w.alloc (.cells #[.map (some b)] 109)).heap.size (w.alloc (.cells #[.map (some b)] 109)) w' := by
  have hbl := hown.lt
  have hseq : SeqGives Fence.wide 2 Tryd.prog 109 #[.pointer (some ⟨w.heap.size, 0, none⟩)] encStr (fun ss => ss.Perm (strKeys D0)) (Maps.size D0) (w.alloc (.cells #[.map (some b)] 109)) :=
    AnyZ.keys_gives (ρ := Tryd.keysIt_ren) { Tryd.keysIt with } Fence.wide _ trivial rfl (by omega) w.heap.size b nn D0 _ (by simp) (by simp) (by
      obtain ⟨es, clock, hb, Ft, hs, hD⟩ := hown
      exact ⟨es, clock, (Below.heap_alloc _ _ b hbl).trans hb, Ft, hs, hD⟩)
  exact AnyZ.sorted_in Tryd.sortedIt Fence.wide 5 trivial trivial trivial trivial rfl (by omega) (sortsIt _) (enters_of Tryd.func108 (by kernel_rfl) rfl) 109 #[.pointer (some ⟨w.heap.size, 0, none⟩)] trivial
    (enters_of Tryd.func109 (by kernel_rfl) rfl) _ _ hmax hbytes _ hseq

/-- The order of the library's lists of bytes is Go's. -/
theorem le_less : ∀ x y : List UInt8, decide (x ≤ y) = !Op.bytesLess y x
  | [], y => by
    have : Op.bytesLess y [] = false := by cases y <;> rfl
    rw [this]
    simp
  | a :: x, [] => by
    have : Op.bytesLess [] (a :: x) = true := rfl
    rw [this]
    simp
  | a :: x, b :: y => by
    have ih := le_less x y
    have e : Op.bytesLess (b :: y) (a :: x) = (decide (b < a) || (b == a && Op.bytesLess y x)) := rfl
    rw [e]
    by_cases h : a = b
    · subst h
      simp only [lt_irrefl', decide_false, Bool.false_or, beq_self_eq_true, Bool.true_and]
      rw [← ih]
      refine decide_eq_decide.2 ?_
      rw [List.cons_le_cons_iff]
      simp
    · have h' : (b == a) = false := beq_eq_false_iff_ne.2 (Ne.symm h)
      rw [h', Bool.false_and, Bool.or_false]
      rcases UInt8.lt_or_lt_of_ne h with h1 | h1
      · have h2 : ¬ b < a := UInt8.lt_asymm h1
        simp [List.cons_le_cons_iff, h1, h2]
      · have h2 : ¬ a < b := UInt8.lt_asymm h1
        simp [List.cons_le_cons_iff, h1, h2, h]
where
  lt_irrefl' {a : UInt8} : (a < a) = False := by simp
def strs (L : List ByteArray) : List Value := L.map Value.string
theorem strs_length (L : List ByteArray) : (strs L).length = L.length := List.length_map ..
/-- The names of a disk. -/
def namesA (L : List (ByteArray × PF)) : List ByteArray := L.map (·.1)
theorem keys_sorted {L : List (ByteArray × PF)} (hL : Asc L) {ss : List (List UInt8)} (h : ss.Perm (L.map fun p => p.1.toList)) : (ss.mergeSort fun x y => decide (x ≤ y)).map encStr = strs (namesA L) := by
  have tr : ∀ a b c : List UInt8, leB a b = true → leB b c = true → leB a c = true := fun a b c h1 h2 => by simp only [leB, decide_eq_true_eq] at *; exact List.le_trans h1 h2
  have tot : ∀ a b : List UInt8, (leB a b || leB b a) = true := fun a b => by simp only [leB, Bool.or_eq_true, decide_eq_true_eq]; exact List.le_total a b
  have hs : (L.map fun p => p.1.toList).Pairwise fun a b => leB a b = true := by
    rw [List.pairwise_map]
    exact hL.imp fun h => by
      show decide (_ ≤ _) = true
      rw [le_less]
      rw [show Op.bytesLess _ _ = false from ltN_asym h]
      rfl
  have e : ss.mergeSort leB = L.map fun p => p.1.toList :=
    List.Perm.eq_of_pairwise (le := fun a b => leB a b = true) (fun a b _ _ h1 h2 => by
      simp only [leB, decide_eq_true_eq] at h1 h2
      exact List.le_antisymm h1 h2) (List.pairwise_mergeSort tr tot ss) hs ((List.mergeSort_perm ss leB).trans h)
  show (ss.mergeSort leB).map encStr = _
  rw [e]
  unfold strs namesA
  rw [List.map_map, List.map_map]
  refine List.map_congr_left (fun p _ => ?_)
  simp only [Function.comp, encStr]
  rw [ByteArray.toList_eq]
set_option maxHeartbeats 1000000 in
theorem dnames_any (base db mb : Nat) (L : List (ByteArray × Fi)) (D : DA) (w : World) (h : DK base w db mb L D) :
    Calls Tryd.prog 68 #[.pointer (some ⟨db, 0, none⟩)] w fun e w' => ∃ v, e = .returned v ∧ Mine w w' 9 v (strs (namesA D.L)) := by
  have c0 := h.c.1
  obtain ⟨D0, hown, es, hD, hp⟩ := h.map.owns Tryd.underlying9
  have hlen : es.length = L.length := by
    have := hp.length_eq
    simpa [mapM] using this
  have hsz : Maps.size D0 = L.length := by rw [hD]; exact hlen
  have hc := h.ok.count
  have hl := h.len
  have hmax : Maps.size D0 ≤ maxLen := by rw [hsz, hl]; unfold maxLen; omega
  have hbytes : Maps.size D0 * 16 ≤ 140737488355328 := by rw [hsz, hl]; omega
  have hkeys : (strKeys D0).Perm (D.L.map fun p => p.1.toList) := by
    rw [hD]
    show (es.map fun p => strOf p.1).Perm _
    have h1 := hp.map fun p => strOf p.1
    have h2 := h.perm.map fun p => p.1.toList
    refine h1.trans ?_
    refine List.Perm.trans (List.Perm.of_eq ?_) h2
    unfold mapM
    rw [List.map_map, List.map_map, List.map_map]
    refine List.map_congr_left (fun p _ => ?_)
    simp only [Function.comp, strOf]
    rw [ByteArray.toList_eq]
  have HA := Lib.hid h.ok.asc
  have HKS := Lib.hid hkeys
  clear hD hp hlen hsz hc hl h hkeys
  refine (callsIn_wide (n := 6)).1 ?_
  have hfK : Fence.wide.fn 93 := trivial
  have hfS : Fence.wide.fn 92 := trivial
  refine callsIn_of_wp Tryd.func68 rfl trivial ?_ rfl
  simp only [Tryd.ntmps68, List.size_toArray, List.length_cons, List.length_nil, Nat.reduceAdd, Nat.reduceSub, Array.replicate_succ, Array.replicate_zero, List.push_toArray, List.append_toArray, List.nil_append, List.cons_append]
  gi_wp2_with (first
    | (gi_at_call 93; refine (mapsKeys_any _ _).mono ?_; rintro e w' ⟨rfl, rfl⟩)
    | (gi_at_call 92; refine (sortedKeys_any mb _ D0 _ w hown hmax hbytes).mono ?_; rintro e w' ⟨v, ss, rfl, hS, hrow, hnil, hb⟩))
  go_ret
  have hbs : w.heap.size ≤ (w.alloc (.cells #[.map (some mb)] 109)).heap.size := by simp
  have hk : Kept (fun _ => False) w w' := ((Kept.refl (fun _ => False) w).alloc _).step (S' := fun k => _ ≤ k) (Kept.ofBelow hb) (fun k hk x => by omega)
  rw [keys_sorted HA.out (hS.trans HKS.out)] at hrow
  exact ⟨v, rfl, Mine.ofFresh (ownsRow_base_a hrow (by simp)) hk⟩
end Go.Proofs.YtficodklidaheaaDoor
