/- Layer 18: Names; plainly: as many files as may be. -/
import Derived.Test.YtficodklidaheaaDoorSB
import Derived.Test.YtficodklidaheaaDoorSC
namespace Go.Proofs.YtficodklidaheaaDoor
open Go.RowKit
attribute [local go_sem ↓] Go.wp_at_zero Go.wp_at_succ

/-- What Names answers. -/
def namesUp (D : DA) : List ByteArray := if D.down = true then [] else namesA D.L
set_option maxHeartbeats 1000000 in
theorem dNames_any (base db mb : Nat) (L : List (ByteArray × Fi)) (D : DA) (w : World) (h : DK base w db mb L D) :
    Calls Tryd.prog 25 #[.pointer (some ⟨db, 0, none⟩)] w fun e w' => ∃ v, e = .returned v ∧ Mine w w' 9 v (strs (namesUp D)) := by
  have c3 := h.c.2.2.2.1
  have HN := Lib.hid (dnames_any base db mb L D w h)
  clear h
  unfold namesUp
  cases hd : D.down
  · rw [hd] at c3
    clear hd
    go_enter Tryd.func25, Tryd.ntmps25
    go_wp2_with fail
    refine HN.out.mono ?_
    rintro e w1 ⟨v, rfl, m⟩
    have HM := Lib.hid m
    clear m c3
    go_wp2
    go_ret
    exact ⟨v, rfl, HM.out⟩
  · rw [hd] at c3
    clear hd
    go_enter Tryd.func25, Tryd.ntmps25
    go_wp2
    go_ret
    exact ⟨_, rfl, Mine.nil _ _⟩

/-- The name at a place. -/
def nmL (i : Nat) : List Nat := [97 + i % 16, 97 + i / 16 % 16, 97 + i / 256]
def nmI (i : Nat) : ByteArray := strL (nmL i)
theorem nmI_bl {i : Nat} (h : i < 4096) : bl (nmI i) = nmL i := bl_strL (fun x hx => by
  unfold nmL at hx
  simp only [List.mem_cons, List.not_mem_nil, or_false] at hx
  omega)
theorem nmI_size {i : Nat} (h : i < 4096) : (nmI i).size = 3 := by rw [← bl_length, nmI_bl h]; rfl
theorem nmI_ok {i : Nat} (h : i < 4096) : nameB (nmI i) = true := by
  unfold nameB
  rw [nmI_size h, nmI_bl h]
  have hc : ∀ x ∈ nmL i, nameC x = true := fun x hx => by
    unfold nmL at hx
    simp only [List.mem_cons, List.not_mem_nil, or_false] at hx
    unfold nameC
    have h1 : 97 ≤ x := by omega
    have h2 : x ≤ 122 := by omega
    rw [decide_eq_true h1, decide_eq_true h2]
    rfl
  rw [List.all_eq_true.2 hc]
  rfl
theorem nmI_inj {i j : Nat} (hi : i < 4096) (hj : j < 4096) (h : nmI i = nmI j) : i = j := by
  have e : nmL i = nmL j := by rw [← nmI_bl hi, ← nmI_bl hj, h]
  unfold nmL at e
  injection e with e1 e
  injection e with e2 e
  injection e with e3 e
  omega
/-- Files without bytes, of names that are not there. -/
theorem newL_many : ∀ (R : List ByteArray) (M : List (ByteArray × PF)), (∀ s ∈ R, nameB s = true) → R.Pairwise (· ≠ ·) → (∀ s ∈ R, getM M s = none) → Asc M → usedL M = 0 →
    ∃ M', newL 1 (R.map fun s => (s, [])) M = some M' ∧ M'.length = M.length + R.length ∧ Asc M' ∧ ∀ t, t ∉ R → getM M' t = getM M t
  | [], M, _, _, _, hA, _ => ⟨M, rfl, rfl, hA, fun _ _ => rfl⟩
  | s :: R, M, hn, hp, hg, hA, hu => by
    obtain ⟨p1, p2⟩ := List.pairwise_cons.1 hp
    have hgs := hg s (List.mem_cons_self ..)
    have e1 := len_put hA.pair s (⟨[], 0⟩ : PF)
    have e2 := len_del hA.pair s
    have e3 := usedL_put hA.pair s (⟨[], 0⟩ : PF)
    rw [hgs] at e2 e3
    simp only [szM, Option.isSome_none, Bool.false_eq_true, if_false, List.length_nil] at e2 e3
    obtain ⟨M', h1, h2, h3, h4⟩ := newL_many R (putS M s ⟨[], 0⟩) (fun t ht => hn t (List.mem_cons_of_mem _ ht)) p2 (fun t ht => by
      rw [getM_put, if_neg (p1 t ht)]
      exact hg t (List.mem_cons_of_mem _ ht)) (putS_asc hA s _) (by omega)
    refine ⟨M', ?_, ?_, h3, fun t ht => ?_⟩
    · rw [List.map_cons, newL_some, List.length_nil]
      · exact h1
      · rw [hn s (List.mem_cons_self ..), hgs, hu]
        simp
    · rw [h2, e1, List.length_cons]; omega
    · rw [h4 t (fun x => ht (List.mem_cons_of_mem _ x)), getM_put, if_neg (fun e => ht (by rw [← e]; exact List.mem_cons_self ..))]
def namesI (n : Nat) : List ByteArray := (List.range n).map nmI
theorem namesI_succ (n : Nat) : namesI (n + 1) = namesI n ++ [nmI n] := by unfold namesI; rw [List.range_succ, List.map_append]; rfl
theorem namesI_length (n : Nat) : (namesI n).length = n := by unfold namesI; simp
theorem namesI_pair {n : Nat} (h : n ≤ 4096) : (namesI n).Pairwise (· ≠ ·) := by
  unfold namesI
  rw [List.pairwise_map]
  refine List.Pairwise.imp_of_mem (fun {a b} ha hb hab e => ?_) (List.pairwise_lt_range (n := n))
  have h1 := List.mem_range.1 ha
  have h2 := List.mem_range.1 hb
  have := nmI_inj (by omega) (by omega) e
  omega
theorem namesI_mem {n : Nat} {s : ByteArray} (h : n ≤ 4096) (hs : s ∈ namesI n) : s.size = 3 ∧ nameB s = true := by
  unfold namesI at hs
  obtain ⟨i, hi, rfl⟩ := List.mem_map.1 hs
  have := List.mem_range.1 hi
  exact ⟨nmI_size (by omega), nmI_ok (by omega)⟩
theorem newD_many {n : Nat} (h : n ≤ 4096) : ∃ M, newD ((namesI n).map fun s => (s, [])) 1 = some (freshD 1 M) ∧ M.length = n ∧ Asc M ∧ ∀ t : ByteArray, t.size ≠ 3 → getM M t = none := by
  obtain ⟨M, h1, h2, h3, h4⟩ := newL_many (namesI n) [] (fun s hs => (namesI_mem h hs).2) (namesI_pair h) (fun _ _ => rfl) List.Pairwise.nil rfl
  rw [namesI_length] at h2
  refine ⟨M, ?_, by rw [h2]; simp, h3, fun t ht => ?_⟩
  · rw [newD_good (by rw [List.length_map, namesI_length]; omega), h1]; rfl
  · rw [h4 t (fun x => ht (namesI_mem h x).1)]; rfl
/-- A file is created, if there is room for it. -/
theorem create_next {M : List (ByteArray × PF)} {k : Int} {s : ByteArray} (hA : Asc M) (hn : nameB s = true) (hg : getM M s = none) :
    ∃ M' e, createD ⟨M, 1, false, k, -1, 0, -1⟩ s = (⟨M', 1, false, wrap64 (k + 1), -1, 0, -1⟩, e) ∧ Asc M' ∧ (∀ t, t ≠ s → getM M' t = getM M t) ∧
      ((4096 ≤ M.length ∧ e = 6 ∧ M'.length = M.length) ∨ (M.length < 4096 ∧ e = 0 ∧ M'.length = M.length + 1)) := by
  have hb : beginD ⟨M, 1, false, k, -1, 0, -1⟩ = (⟨M, 1, false, wrap64 (k + 1), -1, 0, -1⟩, 0) := by
    unfold beginD countedD
    simp only [Bool.false_eq_true, if_false]
    rw [if_neg (by decide)]
    rfl
  have hc : createD ⟨M, 1, false, k, -1, 0, -1⟩ s = createF s ⟨M, 1, false, wrap64 (k + 1), -1, 0, -1⟩ := by
    unfold createD behindD
    rw [hb, if_pos rfl]
  by_cases h : 4096 ≤ M.length
  · refine ⟨M, 6, ?_, hA, fun _ _ => rfl, .inl ⟨h, rfl, rfl⟩⟩
    rw [hc]
    unfold createF
    rw [if_neg (by rw [hn]; decide), if_neg (by simp only; rw [hg]; decide), if_pos h]
  · have e1 := len_put hA.pair s (⟨[], 0⟩ : PF)
    have e2 := len_del hA.pair s
    rw [hg] at e2
    simp only [Option.isSome_none, Bool.false_eq_true, if_false] at e2
    refine ⟨putS M s ⟨[], 0⟩, 0, ?_, putS_asc hA s _, fun t ht => ?_, .inr ⟨by omega, rfl, by omega⟩⟩
    · rw [hc]
      unfold createF
      rw [if_neg (by rw [hn]; decide), if_neg (by simp only; rw [hg]; decide), if_neg h]
    · rw [getM_put, if_neg (Ne.symm ht)]
def nmX : ByteArray := { data := #[120, 45] }
def nmY : ByteArray := { data := #[121, 45] }
def nmZ : ByteArray := { data := #[122, 45] }
/-- Three are created. -/
theorem create_three {n : Nat} (h1 : 4094 ≤ n) (h2 : n ≤ 4096) : ∃ M0 M1 M2 M3 e f g, newD ((namesI n).map fun s => (s, [])) 1 = some (freshD 1 M0) ∧ createD (freshD 1 M0) nmX = (⟨M1, 1, false, 1, -1, 0, -1⟩, e) ∧
    createD ⟨M1, 1, false, 1, -1, 0, -1⟩ nmY = (⟨M2, 1, false, 2, -1, 0, -1⟩, f) ∧ createD ⟨M2, 1, false, 2, -1, 0, -1⟩ nmZ = (⟨M3, 1, false, 3, -1, 0, -1⟩, g) ∧
    M3.length = 4096 ∧ (e = 6 ∨ e = 0) ∧ (f = 6 ∨ f = 0) ∧ (g = 6 ∨ g = 0) ∧ ([e, f, g].filter (· == (6 : Int))).length = n - 4093 := by
  obtain ⟨M0, a1, a2, a3, a4⟩ := newD_many h2
  obtain ⟨M1, e, b1, b2, b3, b4⟩ := create_next (k := 0) (s := nmX) a3 (by decide +kernel) (a4 nmX (by decide))
  obtain ⟨M2, f, c1, c2, c3, c4⟩ := create_next (k := 1) (s := nmY) b2 (by decide +kernel) (by rw [b3 nmY (by decide)]; exact a4 nmY (by decide))
  obtain ⟨M3, g, d1, d2, d3, d4⟩ := create_next (k := 2) (s := nmZ) c2 (by decide +kernel) (by rw [c3 nmZ (by decide), b3 nmZ (by decide)]; exact a4 nmZ (by decide))
  rw [show wrap64 (0 + 1) = 1 by unfold wrap64; omega] at b1
  rw [show wrap64 (1 + 1) = 2 by unfold wrap64; omega] at c1
  rw [show wrap64 (2 + 1) = 3 by unfold wrap64; omega] at d1
  refine ⟨M0, M1, M2, M3, e, f, g, a1, b1, c1, d1, ?_, ?_, ?_, ?_, ?_⟩
  · omega
  · omega
  · omega
  · omega
  · obtain h | h | h : n = 4094 ∨ n = 4095 ∨ n = 4096 := by omega
    · obtain rfl : e = 0 := by omega
      obtain rfl : f = 0 := by omega
      obtain rfl : g = 6 := by omega
      rw [h]; rfl
    · obtain rfl : e = 0 := by omega
      obtain rfl : f = 6 := by omega
      obtain rfl : g = 6 := by omega
      rw [h]; rfl
    · obtain rfl : e = 6 := by omega
      obtain rfl : f = 6 := by omega
      obtain rfl : g = 6 := by omega
      rw [h]; rfl
end Go.Proofs.YtficodklidaheaaDoor
