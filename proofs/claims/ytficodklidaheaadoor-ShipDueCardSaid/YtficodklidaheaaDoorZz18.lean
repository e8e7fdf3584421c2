/- Texts put together: S2, SB. -/
import Derived.Test.YtficodklidaheaaDoorZz4
import Derived.Test.YtficodklidaheaaDoorZz17
import Derived.Sort.KeysCollected
import Derived.CallsIn
import Derived.Test.YtficodklidaheaaDoorZz11
import Derived.Deep.RegionWith
/- Layer 18: all names of a disk, rising. -/
namespace Go.Proofs.YtficodklidaheaaDoor
open Go.RowKit Go.Maps Go.Sort Go.Shelf
attribute [local go_sem ↓] Go.wp_at_zero Go.wp_at_succ

theorem sortsIt (m : Nat) : AnyZ.SortsIn Tryd.prog Tryd.sortedIt_ren Fence.wide m :=
  ⟨fun blk off cap ss W hH hblk hsz => callsIn_wide.2 (AnyM.slices_Sort_string Tryd.sortIt blk off cap ss W hH hblk hsz),
   fun p cap W => callsIn_wide.2 (AnyM.slices_Sort_string_none Tryd.sortIt p cap W)⟩
theorem mapsKeys_any (mb : Option Nat) (W : World) : CallsIn Fence.wide 5 Tryd.prog 93 #[.map mb] W fun e w' =>
    e = .returned (.func (.func 109) #[] #[.pointer (some ⟨W.heap.size, 0, none⟩)]) ∧ w' = W.alloc (.cells #[.map mb] 109) :=
  AnyZ.keys_in Tryd.keysIt Fence.wide 5 trivial rfl mb W
set_option maxHeartbeats 1000000 in
theorem sortedKeys_any {H : Type} (b nn : Nat) (D0 : DataW H) (R : Value → Option (DataW H × List MemPlace)) (w : World) (hown : w.ownsMap Tryd.prog 9 R b nn D0) (hmax : Maps.size D0 ≤ maxLen) (hbytes : Maps.size D0 * 16 ≤ 140737488355328) :
    CallsIn Fence.wide 5 Tryd.prog 92 #[.func (.func 109) #[] #[.pointer (some ⟨w.heap.size, 0, none⟩)]] (w.alloc (.cells #[.map (some b)] 109)) fun e w' =>
      ∃ (v : Value) (ss : List (List UInt8)), e = .returned v ∧ ss.Perm (strKeys D0) ∧
      w'.ownsRow (w.alloc (.cells #[.map (some b)] 109)).heap.size 9 1 v ss.length ((ss.mergeSort (fun x y => decide (x ≤ y))).map encStr) ∧ (v = .slice none 0 0 ↔ ss = []) ∧
      Below (w.alloc (.cells #[.map (some b)] 109)).heap.size (w.alloc (.cells #[.map (some b)] 109)) w' := by
  have hbl := hown.lt
  have hseq : SeqGives Fence.wide 2 Tryd.prog 109 #[.pointer (some ⟨w.heap.size, 0, none⟩)] encStr (fun ss => ss.Perm (strKeys D0)) (Maps.size D0) (w.alloc (.cells #[.map (some b)] 109)) :=
    AnyZ.keys_gives (ρ := Tryd.keysIt_ren) { Tryd.keysIt with } Fence.wide _ trivial rfl (by omega) w.heap.size b nn D0 _ (by simp) (by simp) (by
      obtain ⟨es, clock, hb, Ft, hs, hD⟩ := hown
      exact ⟨es, clock, (Below.heap_alloc _ _ b hbl).trans hb, Ft, hs, hD⟩)
  exact AnyZ.sorted_in Tryd.sortedIt Fence.wide 5 trivial trivial trivial trivial rfl (by omega) (sortsIt _) (enters_of Tryd.func108 (by kernel_rfl) rfl) 109 #[.pointer (some ⟨w.heap.size, 0, none⟩)] trivial
    (enters_of Tryd.func109 (by kernel_rfl) rfl) _ _ hmax hbytes _ hseq

/-- The order of the library's lists of bytes is Go's. -/
theorem le_less : ∀ x y : List UInt8, decide (x ≤ y) = !Op.bytesLess y x
  | [], y => by
    have : Op.bytesLess y [] = false := by cases y <;> rfl
    rw [this]
    simp
  | a :: x, [] => by
    have : Op.bytesLess [] (a :: x) = true := rfl
    rw [this]
    simp
  | a :: x, b :: y => by
    have ih := le_less x y
    have e : Op.bytesLess (b :: y) (a :: x) = (decide (b < a) || (b == a && Op.bytesLess y x)) := rfl
    rw [e]
    by_cases h : a = b
    · subst h
      simp only [lt_irrefl', decide_false, Bool.false_or, beq_self_eq_true, Bool.true_and]
      rw [← ih]
      refine decide_eq_decide.2 ?_
      rw [List.cons_le_cons_iff]
      simp
    · have h' : (b == a) = false := beq_eq_false_iff_ne.2 (Ne.symm h)
      rw [h', Bool.false_and, Bool.or_false]
      rcases UInt8.lt_or_lt_of_ne h with h1 | h1
      · have h2 : ¬ b < a := UInt8.lt_asymm h1
        simp [List.cons_le_cons_iff, h1, h2]
      · have h2 : ¬ a < b := UInt8.lt_asymm h1
        simp [List.cons_le_cons_iff, h1, h2, h]
where
  lt_irrefl' {a : UInt8} : (a < a) = False := by simp
def strs (L : List ByteArray) : List Value := L.map Value.string
theorem strs_length (L : List ByteArray) : (strs L).length = L.length := List.length_map ..
/-- The names of a disk. -/
def namesA (L : List (ByteArray × PF)) : List ByteArray := L.map (·.1)
theorem keys_sorted {L : List (ByteArray × PF)} (hL : Asc L) {ss : List (List UInt8)} (h : ss.Perm (L.map fun p => p.1.toList)) : (ss.mergeSort fun x y => decide (x ≤ y)).map encStr = strs (namesA L) := by
  have tr : ∀ a b c : List UInt8, leB a b = true → leB b c = true → leB a c = true := fun a b c h1 h2 => by simp only [leB, decide_eq_true_eq] at *; exact List.le_trans h1 h2
  have tot : ∀ a b : List UInt8, (leB a b || leB b a) = true := fun a b => by simp only [leB, Bool.or_eq_true, decide_eq_true_eq]; exact List.le_total a b
  have hs : (L.map fun p => p.1.toList).Pairwise fun a b => leB a b = true := by
    rw [List.pairwise_map]
    exact hL.imp fun h => by
      show decide (_ ≤ _) = true
      rw [le_less]
      rw [show Op.bytesLess _ _ = false from ltN_asym h]
      rfl
  have e : ss.mergeSort leB = L.map fun p => p.1.toList :=
    List.Perm.eq_of_pairwise (le := fun a b => leB a b = true) (fun a b _ _ h1 h2 => by
      simp only [leB, decide_eq_true_eq] at h1 h2
      exact List.le_antisymm h1 h2) (List.pairwise_mergeSort tr tot ss) hs ((List.mergeSort_perm ss leB).trans h)
  show (ss.mergeSort leB).map encStr = _
  rw [e]
  unfold strs namesA
  rw [List.map_map, List.map_map]
  refine List.map_congr_left (fun p _ => ?_)
  simp only [Function.comp, encStr]
  rw [ByteArray.toList_eq]
set_option maxHeartbeats 1000000 in
theorem dnames_any (base db mb : Nat) (L : List (ByteArray × Fi)) (D : DA) (w : World) (h : DK base w db mb L D) :
    Calls Tryd.prog 68 #[.pointer (some ⟨db, 0, none⟩)] w fun e w' => ∃ v, e = .returned v ∧ Mine w w' 9 v (strs (namesA D.L)) := by
  have c0 := h.c.1
  obtain ⟨D0, hown, es, hD, hp⟩ := h.map.owns Tryd.underlying9
  have hlen : es.length = L.length := by
    have := hp.length_eq
    simpa [mapM] using this
  have hsz : Maps.size D0 = L.length := by rw [hD]; exact hlen
  have hc := h.ok.count
  have hl := h.len
  have hmax : Maps.size D0 ≤ maxLen := by rw [hsz, hl]; unfold maxLen; omega
  have hbytes : Maps.size D0 * 16 ≤ 140737488355328 := by rw [hsz, hl]; omega
  have hkeys : (strKeys D0).Perm (D.L.map fun p => p.1.toList) := by
    rw [hD]
    show (es.map fun p => strOf p.1).Perm _
    have h1 := hp.map fun p => strOf p.1
    have h2 := h.perm.map fun p => p.1.toList
    refine h1.trans ?_
    refine List.Perm.trans (List.Perm.of_eq ?_) h2
    unfold mapM
    rw [List.map_map, List.map_map, List.map_map]
    refine List.map_congr_left (fun p _ => ?_)
    simp only [Function.comp, strOf]
    rw [ByteArray.toList_eq]
  have HA := Lib.hid h.ok.asc
  have HKS := Lib.hid hkeys
  clear hD hp hlen hsz hc hl h hkeys
  refine (callsIn_wide (n := 6)).1 ?_
  have hfK : Fence.wide.fn 93 := trivial
  have hfS : Fence.wide.fn 92 := trivial
  refine callsIn_of_wp Tryd.func68 rfl trivial ?_ rfl
  simp only [Tryd.ntmps68, List.size_toArray, List.length_cons, List.length_nil, Nat.reduceAdd, Nat.reduceSub, Array.replicate_succ, Array.replicate_zero, List.push_toArray, List.append_toArray, List.nil_append, List.cons_append]
  gi_wp2_with (first
    | (gi_at_call 93; refine (mapsKeys_any _ _).mono ?_; rintro e w' ⟨rfl, rfl⟩)
    | (gi_at_call 92; refine (sortedKeys_any mb _ D0 _ w hown hmax hbytes).mono ?_; rintro e w' ⟨v, ss, rfl, hS, hrow, hnil, hb⟩))
  go_ret
  have hbs : w.heap.size ≤ (w.alloc (.cells #[.map (some mb)] 109)).heap.size := by simp
  have hk : Kept (fun _ => False) w w' := ((Kept.refl (fun _ => False) w).alloc _).step (S' := fun k => _ ≤ k) (Kept.ofBelow hb) (fun k hk x => by omega)
  rw [keys_sorted HA.out (hS.trans HKS.out)] at hrow
  exact ⟨v, rfl, Mine.ofFresh (ownsRow_base_a hrow (by simp)) hk⟩
end Go.Proofs.YtficodklidaheaaDoor
/- Layer 18: Boot (written by tools/gen_XSB.py). -/
namespace Go.Proofs.YtficodklidaheaaDoor
open Go.RowKit
attribute [local go_sem ↓] Go.wp_at_zero Go.wp_at_succ

/-- The files when the first i were booted. -/
def midL (keep : List Int) (L : List (ByteArray × PF)) (i : Nat) : List (ByteArray × PF) := (bootL keep L).take i ++ L.drop i
theorem midL_zero (keep : List Int) (L : List (ByteArray × PF)) : midL keep L 0 = L := by simp [midL]
theorem midL_all (keep : List Int) (L : List (ByteArray × PF)) : midL keep L L.length = bootL keep L := by
  unfold midL
  rw [List.drop_length, List.append_nil, ← bootL_len keep L, List.take_length]
theorem midL_key (keep : List Int) (L : List (ByteArray × PF)) (i : Nat) : (midL keep L i).map (·.1) = L.map (·.1) := by
  unfold midL
  rw [List.map_append, List.map_take, List.map_drop, bootL_key, List.take_append_drop]
theorem midL_asc {L : List (ByteArray × PF)} (h : Asc L) (keep : List Int) (i : Nat) : Asc (midL keep L i) := by
  have : (L.map (·.1)).Pairwise fun a b => ltN a b = true := List.pairwise_map.2 h
  rw [← midL_key keep L i] at this
  exact List.pairwise_map.1 this
theorem midL_at (keep : List Int) (L : List (ByteArray × PF)) {i : Nat} (h : i < L.length) : (midL keep L i)[i]? = L[i]? := by
  unfold midL
  rw [List.getElem?_append_right (by rw [List.length_take]; omega)]
  rw [List.length_take, bootL_len, Nat.min_eq_left (by omega), List.getElem?_drop]
  congr 1
  omega
theorem midL_succ (keep : List Int) (L : List (ByteArray × PF)) {i : Nat} {p : ByteArray × PF} (h : L[i]? = some p) : midL keep L (i + 1) = (midL keep L i).set i (p.1, bootF (keep.getD i 0) p.2) := by
  have hl := (List.getElem?_eq_some_iff.1 h).1
  have hb := bootL_get keep L i p h
  have e1 : (bootL keep L).take (i + 1) = (bootL keep L).take i ++ [(p.1, bootF (keep.getD i 0) p.2)] := by
    rw [List.take_add_one, hb]; rfl
  have e2 : L.drop i = p :: L.drop (i + 1) := by
    rw [List.drop_eq_getElem_cons hl]
    congr 1
    exact (List.getElem?_eq_some_iff.1 h).2
  unfold midL
  rw [e1, e2, List.set_append_right _ _ (by rw [List.length_take]; omega), List.append_assoc]
  congr 1
  have : i - ((bootL keep L).take i).length = 0 := by rw [List.length_take, bootL_len]; omega
  rw [this]
  rfl
theorem midL_put {L : List (ByteArray × PF)} (hA : Asc L) (keep : List Int) {i : Nat} {p : ByteArray × PF} (h : L[i]? = some p) : midL keep L (i + 1) = putS (midL keep L i) p.1 (bootF (keep.getD i 0) p.2) := by
  have hl := (List.getElem?_eq_some_iff.1 h).1
  refine asc_ext (midL_asc hA keep _) (putS_asc (midL_asc hA keep i) _ _) (fun t => ?_)
  rw [midL_succ keep L h, ← setM_at (midL_asc hA keep i).pair (u := p.2) (by rw [midL_at keep L hl, h]), getM_set, getM_put]
theorem midL_get {L : List (ByteArray × PF)} (hA : Asc L) (keep : List Int) {i : Nat} {p : ByteArray × PF} (h : L[i]? = some p) : getM (midL keep L i) p.1 = some p.2 :=
  getM_of (midL_asc hA keep i).pair (List.mem_of_getElem? (i := i) (by rw [midL_at keep L (List.getElem?_eq_some_iff.1 h).1, h]))
theorem boot_left (k : Int) (y n : Nat) (b : List Nat) (hn : n = b.length) (hy : y ≤ n) : (y : Int) + min (max 0 k) ((n : Int) - (y : Int)) = ((leftF k ⟨b, y⟩ : Nat) : Int) ∧ leftF k ⟨b, y⟩ ≤ n := by
  unfold leftF
  simp only
  omega
theorem booted_ok {D : DA} (h : DOk D) : DOk { D with down := false, failIn := -1, crashIn := -1 } := ⟨h.asc, h.name, h.count, h.capR, h.used, h.sure, h.byte, h.callsR, ⟨by simp, by simp⟩, ⟨by simp, by simp⟩⟩
theorem Kept.trans' {S : Nat → Prop} {a b c : World} (h : Kept (fun _ => False) a b) (k : Kept S b c) : Kept S a c := (h.mono (fun _ _ x => x.elim)).trans k

theorem slAt_keptB {S : Nat → Prop} {w w' : World} {a : Option Addr} {n c : Nat} {xs : List Value} (h : SlAt w (.slice a n c) xs) (hk : Kept S w w') (hn : xs ≠ [] → ∀ k, (Value.slice a n c).ownBlock = some k → ¬ S k) : SlAt w' (.slice a n c) xs := by
  by_cases e : xs = []
  · subst e
    obtain ⟨ao, c', e1, _, _⟩ := h.val
    exact ⟨ao, c', e1, fun _ => rfl, fun _ _ j u hu => by simp at hu⟩
  · exact h.kept hk (hn e)
set_option maxRecDepth 100000 in
set_option maxHeartbeats 8000000 in
theorem dBoot_any (base db mb : Nat) (L : List (ByteArray × Fi)) (D : DA) (ka : Option Addr) (kn kc : Nat) (keep : List Int) (hkn : keep.length = kn) (w : World) (h : DK base w db mb L D)
    (hkeep : SlAt w (.slice ka kn kc) (vals keep)) (hne : vals keep ≠ [] → ∀ j, (Value.slice ka kn kc).ownBlock = some j → ¬ foot db mb L j) :
    Calls Tryd.prog 34 #[.pointer (some ⟨db, 0, none⟩), .slice ka kn kc] w (DTo base w db mb L (bootD D keep)) := by
  obtain ⟨_, _, _, c3, _⟩ := h.c
  unfold bootD
  cases hd : D.down with
  | false =>
    rw [hd] at c3
    have HX := Lib.hid (show DTo base w db mb L (D, 16) (.returned (.int .i64 16)) w from ⟨L, rfl, h, Kept.refl _ _, Foot.refl _ _ _ _⟩)
    clear h hkeep hne hd
    go_enter Tryd.func34, Tryd.ntmps34
    go_wp2
    go_ret
    exact HX.out
  | true =>
    rw [hd] at c3
    rw [if_pos rfl]
    have HH := Lib.hid h
    have HDN := Lib.hid hd
    have HNM := Lib.hid (dnames_any base db mb L D w h)
    have HK0 := Lib.hid (And.intro hkeep (And.intro hne hkn))
    clear h hkeep hne hd hkn
    go_enter Tryd.func34, Tryd.ntmps34
    go_wp2_with fail
    refine HNM.out.mono ?_
    rintro e w1 ⟨v, rfl, hm⟩
    obtain ⟨na, nc, rfl⟩ := hm.slice
    have hN0 : (strs (namesA D.L)).length = D.L.length := by rw [strs_length]; exact List.length_map ..
    rw [hN0] at hm ⊢
    obtain ⟨N, hN⟩ : ∃ N, N = D.L.length := ⟨_, rfl⟩
    rw [← hN] at hm ⊢
    have HMN := Lib.hid hm
    have HNN := Lib.hid hN
    have h1 := HH.out.kept hm.kept (fun _ _ x => x)
    have H1 := Lib.hid h1
    have HCNT : Hid (N ≤ 4096) := Lib.hid (by rw [hN]; exact HH.out.ok.count)
    have HKEEP : Hid (SlAt w1 (.slice ka kn kc) (vals keep) ∧ (vals keep ≠ [] → ∀ j, (Value.slice ka kn kc).ownBlock = some j → ¬ foot db mb L j) ∧ keep.length = kn) := Lib.hid ⟨HK0.out.1.kept hm.kept (fun _ _ x => x), HK0.out.2.1, HK0.out.2.2⟩
    have HNF : Hid (∀ j, (Value.slice na N nc).ownBlock = some j → ¬ foot db mb L j) := Lib.hid (fun j e x => by
      have h2 := (ownsRow_lt hm.own e).2
      have h3 := (HH.out.lt x).1
      omega)
    clear hm hN0 hN h1 c3
    go_wp2
    go_loopg [18] N (fun g s18 wr => ∃ i : Nat, i ≤ N ∧ g = N - i ∧ s18 = .int .i64 i ∧ ∃ Li, DK base wr db mb Li { D with L := midL keep D.L i } ∧ Kept (foot db mb L) w1 wr ∧ Foot w1 db mb L Li)
    case atStart => exact ⟨0, Nat.zero_le _, rfl, rfl, L, by rw [midL_zero]; exact H1.out, Kept.refl _ _, Foot.refl _ _ _ _⟩
    case round =>
      obtain ⟨i, hiN, rfl, rfl, Li, hr, hkr, hft⟩ := hrel
      by_cases hd : i < N
      · have hdi : (i : Int) < (N : Int) := by omega
        have HI := Lib.hid hd
        have wi : IntKind.i64.wrap ((i : Int) + 1) = ((i + 1 : Nat) : Int) := by have := HCNT.out; rw [IntWalk.i64_in _ ⟨by omega, by omega⟩]; omega
        obtain ⟨p, hp⟩ : ∃ p, D.L[i]? = some p := ⟨_, List.getElem?_eq_getElem (by have := HNN.out; omega)⟩
        obtain ⟨s, b, y⟩ := p
        have hgm := midL_get HH.out.ok.asc keep hp
        simp only at hgm
        have hmem := List.mem_of_getElem? hp
        have HS : Hid (s.size ≤ maxLen) := Lib.hid (by have h32 : s.size ≤ 32 := (nameB_size (HH.out.ok.name _ hmem)).2; unfold maxLen; omega)
        have HY : Hid (y ≤ b.length ∧ ∀ x ∈ b, x < 256) := Lib.hid ⟨HH.out.ok.sure _ hmem, HH.out.ok.byte _ hmem⟩
        have HMM := Lib.hid (And.intro HH.out.ok.asc hp)
        have HM := Lib.hid (And.intro hr hgm)
        obtain ⟨ng, nof, hna, hnc⟩ := (SlAt.kept HMN.out.at_ hkr (fun j e x => HNF.out j (by cases na <;> exact e) x)).elem (i := i) (u := .string s) (by
          unfold strs namesA
          rw [List.getElem?_map, List.getElem?_map, hp]
          rfl)
        subst hna
        have hl := (hr.look HS.out).1
        have hg1 := hr.get s
        rw [show getM ({ D with L := midL keep D.L i } : DA).L s = some ⟨b, y⟩ from hgm] at hg1
        cases hf : getM Li s with
        | none => rw [hf] at hg1; cases hg1
        | some f =>
          rw [lookF_some hf] at hl
          obtain ⟨a, c, b', y'⟩ := f
          rw [hf] at hg1
          simp only [Option.map_some, Fi.t, Option.some.injEq, PF.mk.injEq] at hg1
          obtain ⟨rfl, rfl⟩ := hg1
          simp only at hl
          have hcc := (hr.data _ (getM_mem hf)).cap.1
          simp only at hcc
          obtain ⟨n, hn⟩ : ∃ n, n = b'.length := ⟨_, rfl⟩
          have HNB := Lib.hid hn
          have hyn : y' ≤ n := by have := HY.out.1; omega
          rw [← hn] at hl hcc
          obtain ⟨u, hu0⟩ : ∃ u, u = usedL (midL keep D.L i) := ⟨_, rfl⟩
          have hcap := hr.ok.capR
          have hus := hr.ok.used
          simp only at hus hcap
          have hub : n ≤ u := by
            have h3 := usedL_del hr.ok.asc.pair s
            simp only at h3
            rw [hgm] at h3
            simp only [szM] at h3
            omega
          have hu9 : u ≤ 4194304 := by omega
          have HU := Lib.hid hu0
          have HF := Lib.hid hf
          obtain ⟨q, hq⟩ : ∃ q, q = wr.heap.size := ⟨_, rfl⟩
          obtain ⟨wa, hwa⟩ : ∃ wa, wa = wr.alloc (.cells #[.slice a n c, .int .i64 (y' : Int)] 114) := ⟨_, rfl⟩
          have ka' : Kept (fun _ => False) wr wa := by rw [hwa]; exact (Kept.refl _ _).alloc _
          have BA : BoxAt wa q 114 #[.slice a n c, .int .i64 (y' : Int)] := by rw [hwa, hq]; exact BoxAt.new wr _ _
          have ha := hr.kept ka' (fun _ _ x => x)
          have HA := Lib.hid (And.intro ha (And.intro BA ka'))
          have HW := Lib.hid (And.intro hwa hq)
          have c00 := hr.c.1
          have qA0 : wa.cell? ⟨q, 0, none⟩ = some (.slice a n c) := BA.cell rfl
          have qA1 : wa.cell? ⟨q, 1, none⟩ = some (.int .i64 (y' : Int)) := BA.cell rfl
          have cA2 : wa.cell? ⟨db, 2, none⟩ = some (.int .i64 (u : Int)) := by rw [hu0]; exact ha.c.2.2.1
          have fA2 := ha.box.fz 2
          have HKR := Lib.hid hkr
          have HFT := Lib.hid hft
          clear hp hgm hmem hf hn hu0 hcap hus hwa hq ka' BA ha hr hkr hft hd hiN
          by_cases hk9 : i < kn
          · have hki : (i : Int) < (kn : Int) := by omega
            have hki' : decide (i < kn) = true := decide_eq_true hk9
            obtain ⟨kg, kof, hka, hkc⟩ := (slAt_keptB HKEEP.out.1 HKR.out (fun h0 j e x => HKEEP.out.2.1 h0 j e x)).elem (i := i) (u := .int .i64 (keep.getD i 0)) (by have := HKEEP.out.2.2; exact vals_get (by omega))
            subst hka
            obtain ⟨k, hk⟩ : ∃ k, k = keep.getD i 0 := ⟨_, rfl⟩
            rw [← hk] at hkc
            have HKV := Lib.hid hk
            obtain ⟨hlf, hln⟩ := boot_left k y' n b' HNB.out hyn
            obtain ⟨lf, hlf'⟩ : ∃ lf, lf = leftF k ⟨b', y'⟩ := ⟨_, rfl⟩
            rw [← hlf'] at hlf hln
            have HLF := Lib.hid (And.intro hlf' hln)
            have HEQ : Hid (bootF (keep.getD i 0) ⟨b', y'⟩ = ⟨b'.take lf, lf⟩) := Lib.hid (by rw [← HKV.out]; unfold bootF; rw [← hlf'])
            obtain ⟨w7, hw7⟩ : ∃ w7, w7 = (wa.setCell ⟨db, 2, none⟩ (.int .i64 ((u : Int) - ((n : Int) - (lf : Int))))).drew := ⟨_, rfl⟩
            have k7 : Kept (fun k => k = db) wa w7 := by rw [hw7]; exact (kept_set wa db 2 _).drew
            have b7 : BoxAt w7 db 111 (boxD mb { D with L := putS (midL keep D.L i) s ⟨b'.take lf, lf⟩ }) := by
              rw [hw7]
              have e := usedL_put HM.out.1.ok.asc.pair s ⟨b'.take lf, lf⟩
              rw [HM.out.2] at e
              simp only [szM, List.length_take] at e
              have := HU.out
              have := HNB.out
              exact (usedBox (M := putS (midL keep D.L i) s ⟨b'.take lf, lf⟩) HA.out.1.box (by omega) rfl).kept ((Kept.refl (fun _ => False) _).drew) (fun x => x)
            have q7 : BoxAt w7 q 114 #[.slice a n c, .int .i64 (y' : Int)] := HA.out.2.1.kept k7 (fun e => by have := HM.out.1.box.lt; have := HW.out.2; omega)
            have m7 := HA.out.1.map.kept k7 (fun e => HA.out.1.ne e.symm)
            have H7 := Lib.hid (And.intro (And.intro k7 b7) (And.intro q7 m7))
            have HW7 := Lib.hid hw7
            have c70 : w7.cell? ⟨db, 0, none⟩ = some (.map (some mb)) := b7.cell rfl
            have q70 : w7.cell? ⟨q, 0, none⟩ = some (.slice a n c) := q7.cell rfl
            have q71 : w7.cell? ⟨q, 1, none⟩ = some (.int .i64 (y' : Int)) := q7.cell rfl
            have HFC := Lib.hid (fcut_any a n c y' lf HLF.out.2 hcc w7.drew)
            have hfd := run_field0
            clear hlf' hw7 k7 b7 q7 m7 hcc hk9 hk
            go_upto_region 10 with fail
            rw [← HW.out.1, ← HW.out.2]
            go_upto_region 11 with fail
            try rw [hlf]
            go_region
            rw [← HW7.out]
            go_upto_region 12 with fail
            go_region_with (go_at_call 70; refine HFC.out.mono ?_; rintro e w4 ⟨rfl, hk4⟩; have hk4' := (Kept.refl (fun _ => False) w7).drew.trans hk4; have c40 : w4.cell? ⟨db, 0, none⟩ = some (.map (some mb)) := (H7.out.1.2.kept hk4' (fun x => x)).cell rfl; obtain ⟨w5, hu5, hm5, hk5⟩ := (H7.out.2.2.kept hk4' (fun x => x)).update Tryd.underlying9 Tryd.underlying109 HS.out (⟨a, lf, b'.take lf, lf⟩ : Fi).val (by have := HA.out.1.ok.count; have := HA.out.1.len; unfold mapM maxLen; rw [List.length_map]; omega); have HK4 := Lib.hid (And.intro hk4' (And.intro hm5 hk5)); replace hu5 : (Instr.mapUpdate 109 (.map (some mb)) (.string s) (.agg #[.slice a lf lf, .int .i64 (lf : Int)])).run Tryd.prog w4 = .ok () w5 := (by have e : (b'.take lf).length = lf := (by rw [List.length_take]; have := HLF.out; have := HNB.out; omega); unfold Fi.val at hu5; simp only [e] at hu5; exact hu5); clear hk4 hk4' hm5 hk5)
            all_goals (
              try simp only [Act.put]
              go_wp2
              go_roundg (N - (i + 1))
              case measure => have := HI.out; omega
              case rel =>
                obtain ⟨⟨k7, b7⟩, q7, m7⟩ := H7.out
                obtain ⟨k4, m5, k5⟩ := HK4.out
                have hfm := getM_mem HF.out
                have hvb : lf ≤ b'.length := by rw [← HNB.out]; exact HLF.out.2
                have kk : Kept (fun k => k = db ∨ k = mb) wa w5 := ((k7.mono (fun _ _ e => .inl e)).trans (k4.mono (fun _ _ x => x.elim))).trans (k5.mono (fun _ _ e => .inr e))
                have ho : OwnB base w5 (⟨a, lf, b'.take lf, lf⟩ : Fi) := ((HA.out.1.data _ hfm).cut (n := lf) hvb lf).kept kk (fun j e x => by
                  have e' : (⟨a, c, b', y'⟩ : Fi).v.ownBlock = some j := by unfold Fi.v at e ⊢; cases a <;> exact e
                  obtain ⟨n1, n2⟩ := HA.out.1.noBox hfm e'
                  rcases x with x | x
                  · exact n1 x
                  · exact n2 x)
                have hput := HA.out.1.put (s := s) (f := ⟨a, lf, b'.take lf, lf⟩) (D' := { D with L := putS (midL keep D.L i) s ⟨b'.take lf, lf⟩ }) (by
                    obtain ⟨d1, d2⟩ := bootF_ok (k := keep.getD i 0) (f := ⟨b', y'⟩) HY.out.1 HY.out.2
                    rw [HEQ.out] at d1 d2
                    exact put_ok HM.out.1.ok (getM_mem HM.out.2) (by have := HM.out.1.ok.used; simp only [List.length_take] at this ⊢; omega) ⟨d1, d2⟩) rfl ((b7.kept k4 (fun x => x)).kept k5 HA.out.1.ne) m5 ho (kk.mono (fun k _ e => by
                    rcases e with e | e
                    · exact .inl e
                    · exact .inr (.inl e))) (fun k e => .inl (by
                      rw [lookF_some HF.out]
                      unfold Fi.v at e ⊢
                      cases a <;> exact e))
                have hnx : midL keep D.L (i + 1) = putS (midL keep D.L i) s ⟨b'.take lf, lf⟩ := by rw [midL_put HMM.out.1 keep HMM.out.2, HEQ.out]
                refine ⟨i + 1, HI.out, rfl, rfl, _, by rw [hnx]; exact hput.1, HKR.out.step (S' := foot db mb Li) ((HA.out.2.2.mono (fun _ _ x => x.elim)).trans hput.2.1) (fun k hk x => (HFT.out k x).resolve_right (by omega)), fun k e => ?_⟩
                rcases hput.2.2 k e with e1 | e1
                · exact HFT.out k e1
                · exact .inr (Nat.le_trans HKR.out.size (Nat.le_trans HA.out.2.2.size e1)))
          · have hki : ¬ (i : Int) < (kn : Int) := by omega
            have hki' : decide (i < kn) = false := decide_eq_false hk9
            obtain ⟨k, hk⟩ : ∃ k : Int, k = 0 := ⟨_, rfl⟩
            have HKV := Lib.hid (show k = keep.getD i 0 by rw [hk, List.getD_eq_getElem?_getD, List.getElem?_eq_none (by have := HKEEP.out.2.2; omega)]; rfl)
            obtain ⟨hlf, hln⟩ := boot_left k y' n b' HNB.out hyn
            obtain ⟨lf, hlf'⟩ : ∃ lf, lf = leftF k ⟨b', y'⟩ := ⟨_, rfl⟩
            rw [← hlf'] at hlf hln
            have HLF := Lib.hid (And.intro hlf' hln)
            subst hk
            have hlf0 : (y' : Int) + min 0 ((n : Int) - (y' : Int)) = (lf : Int) := by omega
            have HEQ : Hid (bootF (keep.getD i 0) ⟨b', y'⟩ = ⟨b'.take lf, lf⟩) := Lib.hid (by rw [← HKV.out]; unfold bootF; rw [← hlf'])
            obtain ⟨w7, hw7⟩ : ∃ w7, w7 = (wa.setCell ⟨db, 2, none⟩ (.int .i64 ((u : Int) - ((n : Int) - (lf : Int))))).drew := ⟨_, rfl⟩
            have k7 : Kept (fun k => k = db) wa w7 := by rw [hw7]; exact (kept_set wa db 2 _).drew
            have b7 : BoxAt w7 db 111 (boxD mb { D with L := putS (midL keep D.L i) s ⟨b'.take lf, lf⟩ }) := by
              rw [hw7]
              have e := usedL_put HM.out.1.ok.asc.pair s ⟨b'.take lf, lf⟩
              rw [HM.out.2] at e
              simp only [szM, List.length_take] at e
              have := HU.out
              have := HNB.out
              exact (usedBox (M := putS (midL keep D.L i) s ⟨b'.take lf, lf⟩) HA.out.1.box (by omega) rfl).kept ((Kept.refl (fun _ => False) _).drew) (fun x => x)
            have q7 : BoxAt w7 q 114 #[.slice a n c, .int .i64 (y' : Int)] := HA.out.2.1.kept k7 (fun e => by have := HM.out.1.box.lt; have := HW.out.2; omega)
            have m7 := HA.out.1.map.kept k7 (fun e => HA.out.1.ne e.symm)
            have H7 := Lib.hid (And.intro (And.intro k7 b7) (And.intro q7 m7))
            have HW7 := Lib.hid hw7
            have c70 : w7.cell? ⟨db, 0, none⟩ = some (.map (some mb)) := b7.cell rfl
            have q70 : w7.cell? ⟨q, 0, none⟩ = some (.slice a n c) := q7.cell rfl
            have q71 : w7.cell? ⟨q, 1, none⟩ = some (.int .i64 (y' : Int)) := q7.cell rfl
            have HFC := Lib.hid (fcut_any a n c y' lf HLF.out.2 hcc w7.drew)
            have hfd := run_field0
            clear hlf' hw7 k7 b7 q7 m7 hcc hk9
            go_upto_region 10 with fail
            rw [← HW.out.1, ← HW.out.2]
            go_upto_region 11 with fail
            try rw [hlf0]
            go_region
            rw [← HW7.out]
            go_upto_region 12 with fail
            go_region_with (go_at_call 70; refine HFC.out.mono ?_; rintro e w4 ⟨rfl, hk4⟩; have hk4' := (Kept.refl (fun _ => False) w7).drew.trans hk4; have c40 : w4.cell? ⟨db, 0, none⟩ = some (.map (some mb)) := (H7.out.1.2.kept hk4' (fun x => x)).cell rfl; obtain ⟨w5, hu5, hm5, hk5⟩ := (H7.out.2.2.kept hk4' (fun x => x)).update Tryd.underlying9 Tryd.underlying109 HS.out (⟨a, lf, b'.take lf, lf⟩ : Fi).val (by have := HA.out.1.ok.count; have := HA.out.1.len; unfold mapM maxLen; rw [List.length_map]; omega); have HK4 := Lib.hid (And.intro hk4' (And.intro hm5 hk5)); replace hu5 : (Instr.mapUpdate 109 (.map (some mb)) (.string s) (.agg #[.slice a lf lf, .int .i64 (lf : Int)])).run Tryd.prog w4 = .ok () w5 := (by have e : (b'.take lf).length = lf := (by rw [List.length_take]; have := HLF.out; have := HNB.out; omega); unfold Fi.val at hu5; simp only [e] at hu5; exact hu5); clear hk4 hk4' hm5 hk5)
            all_goals (
              try simp only [Act.put]
              go_wp2
              go_roundg (N - (i + 1))
              case measure => have := HI.out; omega
              case rel =>
                obtain ⟨⟨k7, b7⟩, q7, m7⟩ := H7.out
                obtain ⟨k4, m5, k5⟩ := HK4.out
                have hfm := getM_mem HF.out
                have hvb : lf ≤ b'.length := by rw [← HNB.out]; exact HLF.out.2
                have kk : Kept (fun k => k = db ∨ k = mb) wa w5 := ((k7.mono (fun _ _ e => .inl e)).trans (k4.mono (fun _ _ x => x.elim))).trans (k5.mono (fun _ _ e => .inr e))
                have ho : OwnB base w5 (⟨a, lf, b'.take lf, lf⟩ : Fi) := ((HA.out.1.data _ hfm).cut (n := lf) hvb lf).kept kk (fun j e x => by
                  have e' : (⟨a, c, b', y'⟩ : Fi).v.ownBlock = some j := by unfold Fi.v at e ⊢; cases a <;> exact e
                  obtain ⟨n1, n2⟩ := HA.out.1.noBox hfm e'
                  rcases x with x | x
                  · exact n1 x
                  · exact n2 x)
                have hput := HA.out.1.put (s := s) (f := ⟨a, lf, b'.take lf, lf⟩) (D' := { D with L := putS (midL keep D.L i) s ⟨b'.take lf, lf⟩ }) (by
                    obtain ⟨d1, d2⟩ := bootF_ok (k := keep.getD i 0) (f := ⟨b', y'⟩) HY.out.1 HY.out.2
                    rw [HEQ.out] at d1 d2
                    exact put_ok HM.out.1.ok (getM_mem HM.out.2) (by have := HM.out.1.ok.used; simp only [List.length_take] at this ⊢; omega) ⟨d1, d2⟩) rfl ((b7.kept k4 (fun x => x)).kept k5 HA.out.1.ne) m5 ho (kk.mono (fun k _ e => by
                    rcases e with e | e
                    · exact .inl e
                    · exact .inr (.inl e))) (fun k e => .inl (by
                      rw [lookF_some HF.out]
                      unfold Fi.v at e ⊢
                      cases a <;> exact e))
                have hnx : midL keep D.L (i + 1) = putS (midL keep D.L i) s ⟨b'.take lf, lf⟩ := by rw [midL_put HMM.out.1 keep HMM.out.2, HEQ.out]
                refine ⟨i + 1, HI.out, rfl, rfl, _, by rw [hnx]; exact hput.1, HKR.out.step (S' := foot db mb Li) ((HA.out.2.2.mono (fun _ _ x => x.elim)).trans hput.2.1) (fun k hk x => (HFT.out k x).resolve_right (by omega)), fun k e => ?_⟩
                rcases hput.2.2 k e with e1 | e1
                · exact HFT.out k e1
                · exact .inr (Nat.le_trans HKR.out.size (Nat.le_trans HA.out.2.2.size e1)))
      · have hdi : ¬ (i : Int) < (N : Int) := by omega
        have hie : i = N := by omega
        subst hie
        have hmid : midL keep D.L i = bootL keep D.L := by rw [HNN.out, midL_all]
        rw [hmid] at hr
        have hb := hr.box
        have f3 := hb.fz 3
        have f5 := hb.fz 5
        have f7 := hb.fz 7
        obtain ⟨_, _, _, c3, _, c5, _, c7⟩ := hr.c
        have kS : Kept (fun k => k = db) wr (((wr.setCell ⟨db, 3, none⟩ (.bool false)).setCell ⟨db, 5, none⟩ (.int .i64 (-1))).setCell ⟨db, 7, none⟩ (.int .i64 (-1))) := ((kept_set wr db 3 _).trans (kept_set _ db 5 _)).trans (kept_set _ db 7 _)
        have HR := Lib.hid (show DTo base w db mb L ({ D with L := bootL keep D.L, down := false, failIn := -1, crashIn := -1 }, 0) (.returned (.int .i64 0)) (((wr.setCell ⟨db, 3, none⟩ (.bool false)).setCell ⟨db, 5, none⟩ (.int .i64 (-1))).setCell ⟨db, 7, none⟩ (.int .i64 (-1))) from
          ⟨Li, rfl, hr.turned (((hb.set 3 _).set 5 _).set 7 _) kS rfl (booted_ok hr.ok), HMN.out.kept.trans' (hkr.trans (kS.mono (fun _ _ e => .inl e))), fun k e => by
            rcases hft k e with e1 | e1
            · exact .inl e1
            · exact .inr (Nat.le_trans HMN.out.kept.size e1)⟩)
        clear hr hb kS hkr hft hmid hiN hd
        go_wp2
        go_ret
        exact HR.out
end Go.Proofs.YtficodklidaheaaDoor
