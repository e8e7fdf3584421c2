/- Texts put together: WH, SL, R1, R2. -/
import Derived.Test.YtficodklidaheaaDoorZz20
import Derived.Test.YtficodklidaheaaDoorZz23
import Derived.Test.YtficodklidaheaaDoorZz17
import Derived.Test.YtficodklidaheaaDoorZz19
import Derived.Test.YtficodklidaheaaDoorZz1
import Derived.Deep.Slices
import Derived.Deep.Fields
import Derived.ChangeSame
import Derived.Test.YtficodklidaheaaDoorZz2
/- Layer 19: the document's Records; the walk of WalRecords. -/
namespace Go.Proofs.YtficodklidaheaaDoor
open Go.RowKit
attribute [local go_sem ↓] Go.wp_at_zero Go.wp_at_succ

theorem row8_keptBox {w w' : World} {q : Nat} {T : TypeId} {cs : Array Value} {v : Value} {l : List Nat} (h : Row8 w v l) (hb : BoxAt w q T cs) (hn : ∀ (i : Nat) (z : Int), cs[i]? ≠ some (Value.int .u8 z)) (k : Kept (fun j => j = q) w w') : Row8 w' v l := by
  obtain ⟨ao, c, e, hlt, hc⟩ := h
  refine ⟨ao, c, e, hlt, fun j hj => ?_⟩
  obtain ⟨a, ha, h1⟩ := hc j hj
  refine ⟨a, ha, k.cell h1 (fun x => ?_)⟩
  have hs := World.cell?_spot h1
  obtain ⟨b, o, sp⟩ := a
  have x' : b = q := by rw [add_block] at x; exact x
  subst x'
  generalize hg : (⟨b, o, sp⟩ : Addr).add j = a2 at h1 hs
  obtain ⟨b2, o2, sp2⟩ := a2
  have hs' : sp2 = none := hs
  subst hs'
  have hb2 : b2 = b := by have := congrArg Addr.block hg; rw [add_block] at this; exact this.symm
  subst hb2
  rw [cell_of_row _ _ o2 _ _ _ hb] at h1
  exact hn o2 _ h1
theorem RowsV.keptBox {w w' : World} {q : Nat} {T : TypeId} {cs : Array Value} {vs : List Value} {Ls : List (List Nat)} (h : RowsV w vs Ls) (hb : BoxAt w q T cs) (hn : ∀ (i : Nat) (z : Int), cs[i]? ≠ some (Value.int .u8 z)) (k : Kept (fun j => j = q) w w') : RowsV w' vs Ls :=
  ⟨h.1, fun i hi => by
    obtain ⟨ai, ci, h1, h2⟩ := h.2 i hi
    exact ⟨ai, ci, h1, row8_keptBox h2 hb hn k⟩⟩
theorem ScanR.few {l : List Nat} {Ls : List (List Nat)} {u e : Nat} (h : ScanR l Ls u e) : Ls.length ≤ l.length := by
  induction h with
  | done => exact Nat.le_refl _
  | bad l h he => exact Nat.zero_le _
  | more l Ls u e h hr ih =>
    have := firstE_size l h
    rw [List.length_drop] at ih
    rw [List.length_cons]
    omega
/-- What the document's Records answers. -/
def RefRec (w : World) (l : List Nat) (e : Ending) (w' : World) : Prop :=
  ∃ Ls u n, ScanR l Ls u n ∧ Kept (fun _ => False) w w' ∧
    (((n = 0 ∨ n = 2) ∧ ∃ v, e = .returned (.agg #[v, .int .i64 ((u : Nat) : Int), .int .i64 0]) ∧ RowsAt w' v Ls) ∨
     ((n ≠ 0 ∧ n ≠ 2) ∧ e = .returned (.agg #[.slice none 0 0, .int .i64 0, .int .i64 15])))
theorem got19_info : (Tryd.prog.info? 43).map (·.size) = some 3 := by kernel_rfl
set_option maxRecDepth 100000 in
set_option maxHeartbeats 4000000 in
theorem refRecords_any (ao : Option Addr) (c : Nat) (l : List Nat) (hl : l.length ≤ 1000000000) (hcap : l.length ≤ c) (w : World) (HB : Row8 w (.slice ao l.length c) l) :
    Calls Tryd.prog 22 #[.slice ao l.length c] w (RefRec w l) := by
  obtain ⟨w1, hw1⟩ : ∃ w1, w1 = w.alloc (.cells #[.slice none 0 0, .int .i64 0, .int .i64 0] 43) := ⟨_, rfl⟩
  have k1 : Kept (fun _ => False) w w1 := by rw [hw1]; exact (Kept.refl _ _).alloc _
  have b1 : BoxAt w1 w.heap.size 43 #[.slice none 0 0, .int .i64 0, .int .i64 0] := by rw [hw1]; exact BoxAt.new _ _ _
  have HS := Lib.hid (refScan_any ao c l hl hcap w1 (HB.kept k1))
  have HW1 := Lib.hid hw1
  have HB1 := Lib.hid (And.intro b1 k1)
  obtain ⟨m, hm⟩ : ∃ m, m = l.length := ⟨_, rfl⟩
  rw [← hm] at HS ⊢
  clear hw1 k1 b1 hm hl hcap HB
  go_enter Tryd.func22, Tryd.ntmps22
  go_upto_region 1 with fail
  rw [← HW1.out]
  go_wp2_with fail
  refine HS.out.mono ?_
  rintro e w2 ⟨v, Ls, u, n, hsc, rfl, hrows, hk, vs, hown, hrv⟩
  obtain ⟨va, vc, hv, hrest⟩ := hrows
  subst hv
  obtain ⟨q, hq⟩ : ∃ q, q = Ls.length := ⟨_, rfl⟩
  have HV : Hid (RowsAt w2 (.slice va q vc) Ls) := Lib.hid ⟨va, vc, by rw [hq], hrest⟩
  rw [← hq]
  obtain ⟨w3, hw3⟩ : ∃ w3, w3 = w2.alloc (.cells #[.slice va q vc, .int .i64 ((u : Nat) : Int), .int .i64 ((n : Nat) : Int)] 34) := ⟨_, rfl⟩
  obtain ⟨g, hg⟩ : ∃ g, g = w2.heap.size := ⟨_, rfl⟩
  have k3 : Kept (fun _ => False) w2 w3 := by rw [hw3]; exact (Kept.refl _ _).alloc _
  have b3 : BoxAt w3 g 34 #[.slice va q vc, .int .i64 ((u : Nat) : Int), .int .i64 ((n : Nat) : Int)] := by rw [hw3, hg]; exact BoxAt.new _ _ _
  have HR3 := Lib.hid (HB1.out.1.kept (hk.trans k3) (fun x => x))
  have HK3 := Lib.hid (HB1.out.2.trans (hk.trans k3))
  have HV3 : Hid (∀ w', Kept (fun k => k = w.heap.size) w3 w' → RowsAt w' (.slice va q vc) Ls) := Lib.hid (fun w' k => by
    have ho := k.owns (k3.owns hown (fun _ _ x => x)) (fun j e x => by have h9 := (ownsRow_lt hown e).2; have h10 := HB1.out.1.lt; omega)
    rw [hq]
    exact (hrv.keptBox HB1.out.1 (fun i z => by
      match i with
      | 0 => simp
      | 1 => simp
      | 2 => simp
      | i + 3 => simp) (((hk.trans k3).mono (fun _ _ x => x.elim)).trans k)).at_ (Kept.refl _ _) ho)
  have HSC := Lib.hid hsc
  have HW3 := Lib.hid (And.intro hw3 hg)
  obtain ⟨z, hz⟩ : ∃ z : Int, z = ((n : Nat) : Int) := ⟨_, rfl⟩
  obtain ⟨x, hx⟩ : ∃ x : Int, x = ((u : Nat) : Int) := ⟨_, rfl⟩
  rw [← hz, ← hx] at HW3 b3
  rw [← hz, ← hx]
  have HX := Lib.hid hx
  have d0 := b3.cell (i := 0) (u := .slice va q vc) rfl
  have d1 := b3.cell (i := 1) (u := .int .i64 x) rfl
  have d2 := b3.cell (i := 2) (u := .int .i64 z) rfl
  have r0 := HR3.out.cell (i := 0) (u := .slice none 0 0) rfl
  have r1 := HR3.out.cell (i := 1) (u := .int .i64 0) rfl
  have r2 := HR3.out.cell (i := 2) (u := .int .i64 0) rfl
  have f0 := HR3.out.fz 0
  have f1 := HR3.out.fz 1
  have f2 := HR3.out.fz 2
  clear hrest hq hw3 hg k3 b3 hk hsc hx hown hrv
  by_cases h0 : n = 0 ∨ n = 2
  · have HN := Lib.hid h0
    have HF := Lib.hid (show Kept (fun k => k = w.heap.size) w3 (((w3.setCell ⟨w.heap.size, 0, none⟩ (.slice va q vc)).setCell ⟨w.heap.size, 1, none⟩ (.int .i64 x)).setCell ⟨w.heap.size, 2, none⟩ (.int .i64 0)) from ((kept_set _ _ _ _).trans (kept_set _ _ _ _)).trans (kept_set _ _ _ _))
    have hzz : z = 0 ∨ z = 2 := by omega
    clear h0 hz
    rcases hzz with rfl | rfl
    all_goals (
      go_upto_region 2 with fail
      rw [← HW3.out.1, ← HW3.out.2]
      go_wp2
      refine bodyPost_ret (v := .agg #[.slice va q vc, .int .i64 x, .int .i64 0]) ?_ rfl ?_
      · exact results_cell_row Tryd.results22 _ _ w.heap.size 43 _ (0, 0) _ rfl (((HR3.out.set 0 _).set 1 _).set 2 _) Tryd.underlying43 rfl got19_info
      · refine ⟨Ls, u, n, HSC.out, (HK3.out.newer HF.out (fun j e => by rw [e]; exact Nat.le_refl _)), .inl ⟨HN.out, _, by rw [HX.out], ?_⟩⟩
        exact HV3.out _ HF.out)
  · have HN : Hid (n ≠ 0 ∧ n ≠ 2) := Lib.hid ⟨fun e => h0 (.inl e), fun e => h0 (.inr e)⟩
    have HF := Lib.hid (show Kept (fun k => k = w.heap.size) w3 (((w3.setCell ⟨w.heap.size, 0, none⟩ (.slice none 0 0)).setCell ⟨w.heap.size, 1, none⟩ (.int .i64 0)).setCell ⟨w.heap.size, 2, none⟩ (.int .i64 15)) from ((kept_set _ _ _ _).trans (kept_set _ _ _ _)).trans (kept_set _ _ _ _))
    have q0 : (z == 0) = false := beq_eq_false_iff_ne.2 (by have := HN.out.1; omega)
    have q2 : (z == 2) = false := beq_eq_false_iff_ne.2 (by have := HN.out.2; omega)
    have q1 : (z != 0) = true := by simp [bne, q0]
    have q3 : (z != 2) = true := by simp [bne, q2]
    clear h0 hz q0 q2
    go_upto_region 2 with fail
    rw [← HW3.out.1, ← HW3.out.2]
    go_wp2
    refine bodyPost_ret (v := .agg #[.slice none 0 0, .int .i64 0, .int .i64 15]) ?_ rfl ?_
    · exact results_cell_row Tryd.results22 _ _ w.heap.size 43 _ (0, 0) _ rfl (((HR3.out.set 0 _).set 1 _).set 2 _) Tryd.underlying43 rfl got19_info
    · exact ⟨Ls, u, n, HSC.out, (HK3.out.newer HF.out (fun j e => by rw [e]; exact Nat.le_refl _)), .inr ⟨HN.out, rfl⟩⟩
end Go.Proofs.YtficodklidaheaaDoor
/- Layer 18: Names; plainly: as many files as may be. -/
namespace Go.Proofs.YtficodklidaheaaDoor
open Go.RowKit
attribute [local go_sem ↓] Go.wp_at_zero Go.wp_at_succ

/-- What Names answers. -/
def namesUp (D : DA) : List ByteArray := if D.down = true then [] else namesA D.L
set_option maxHeartbeats 1000000 in
theorem dNames_any (base db mb : Nat) (L : List (ByteArray × Fi)) (D : DA) (w : World) (h : DK base w db mb L D) :
    Calls Tryd.prog 25 #[.pointer (some ⟨db, 0, none⟩)] w fun e w' => ∃ v, e = .returned v ∧ Mine w w' 9 v (strs (namesUp D)) := by
  have c3 := h.c.2.2.2.1
  have HN := Lib.hid (dnames_any base db mb L D w h)
  clear h
  unfold namesUp
  cases hd : D.down
  · rw [hd] at c3
    clear hd
    go_enter Tryd.func25, Tryd.ntmps25
    go_wp2_with fail
    refine HN.out.mono ?_
    rintro e w1 ⟨v, rfl, m⟩
    have HM := Lib.hid m
    clear m c3
    go_wp2
    go_ret
    exact ⟨v, rfl, HM.out⟩
  · rw [hd] at c3
    clear hd
    go_enter Tryd.func25, Tryd.ntmps25
    go_wp2
    go_ret
    exact ⟨_, rfl, Mine.nil _ _⟩

/-- The name at a place. -/
def nmL (i : Nat) : List Nat := [97 + i % 16, 97 + i / 16 % 16, 97 + i / 256]
def nmI (i : Nat) : ByteArray := strL (nmL i)
theorem nmI_bl {i : Nat} (h : i < 4096) : bl (nmI i) = nmL i := bl_strL (fun x hx => by
  unfold nmL at hx
  simp only [List.mem_cons, List.not_mem_nil, or_false] at hx
  omega)
theorem nmI_size {i : Nat} (h : i < 4096) : (nmI i).size = 3 := by rw [← bl_length, nmI_bl h]; rfl
theorem nmI_ok {i : Nat} (h : i < 4096) : nameB (nmI i) = true := by
  unfold nameB
  rw [nmI_size h, nmI_bl h]
  have hc : ∀ x ∈ nmL i, nameC x = true := fun x hx => by
    unfold nmL at hx
    simp only [List.mem_cons, List.not_mem_nil, or_false] at hx
    unfold nameC
    have h1 : 97 ≤ x := by omega
    have h2 : x ≤ 122 := by omega
    rw [decide_eq_true h1, decide_eq_true h2]
    rfl
  rw [List.all_eq_true.2 hc]
  rfl
theorem nmI_inj {i j : Nat} (hi : i < 4096) (hj : j < 4096) (h : nmI i = nmI j) : i = j := by
  have e : nmL i = nmL j := by rw [← nmI_bl hi, ← nmI_bl hj, h]
  unfold nmL at e
  injection e with e1 e
  injection e with e2 e
  injection e with e3 e
  omega
/-- Files without bytes, of names that are not there. -/
theorem newL_many : ∀ (R : List ByteArray) (M : List (ByteArray × PF)), (∀ s ∈ R, nameB s = true) → R.Pairwise (· ≠ ·) → (∀ s ∈ R, getM M s = none) → Asc M → usedL M = 0 →
    ∃ M', newL 1 (R.map fun s => (s, [])) M = some M' ∧ M'.length = M.length + R.length ∧ Asc M' ∧ ∀ t, t ∉ R → getM M' t = getM M t
  | [], M, _, _, _, hA, _ => ⟨M, rfl, rfl, hA, fun _ _ => rfl⟩
  | s :: R, M, hn, hp, hg, hA, hu => by
    obtain ⟨p1, p2⟩ := List.pairwise_cons.1 hp
    have hgs := hg s (List.mem_cons_self ..)
    have e1 := len_put hA.pair s (⟨[], 0⟩ : PF)
    have e2 := len_del hA.pair s
    have e3 := usedL_put hA.pair s (⟨[], 0⟩ : PF)
    rw [hgs] at e2 e3
    simp only [szM, Option.isSome_none, Bool.false_eq_true, if_false, List.length_nil] at e2 e3
    obtain ⟨M', h1, h2, h3, h4⟩ := newL_many R (putS M s ⟨[], 0⟩) (fun t ht => hn t (List.mem_cons_of_mem _ ht)) p2 (fun t ht => by
      rw [getM_put, if_neg (p1 t ht)]
      exact hg t (List.mem_cons_of_mem _ ht)) (putS_asc hA s _) (by omega)
    refine ⟨M', ?_, ?_, h3, fun t ht => ?_⟩
    · rw [List.map_cons, newL_some, List.length_nil]
      · exact h1
      · rw [hn s (List.mem_cons_self ..), hgs, hu]
        simp
    · rw [h2, e1, List.length_cons]; omega
    · rw [h4 t (fun x => ht (List.mem_cons_of_mem _ x)), getM_put, if_neg (fun e => ht (by rw [← e]; exact List.mem_cons_self ..))]
def namesI (n : Nat) : List ByteArray := (List.range n).map nmI
theorem namesI_succ (n : Nat) : namesI (n + 1) = namesI n ++ [nmI n] := by unfold namesI; rw [List.range_succ, List.map_append]; rfl
theorem namesI_length (n : Nat) : (namesI n).length = n := by unfold namesI; simp
theorem namesI_pair {n : Nat} (h : n ≤ 4096) : (namesI n).Pairwise (· ≠ ·) := by
  unfold namesI
  rw [List.pairwise_map]
  refine List.Pairwise.imp_of_mem (fun {a b} ha hb hab e => ?_) (List.pairwise_lt_range (n := n))
  have h1 := List.mem_range.1 ha
  have h2 := List.mem_range.1 hb
  have := nmI_inj (by omega) (by omega) e
  omega
theorem namesI_mem {n : Nat} {s : ByteArray} (h : n ≤ 4096) (hs : s ∈ namesI n) : s.size = 3 ∧ nameB s = true := by
  unfold namesI at hs
  obtain ⟨i, hi, rfl⟩ := List.mem_map.1 hs
  have := List.mem_range.1 hi
  exact ⟨nmI_size (by omega), nmI_ok (by omega)⟩
theorem newD_many {n : Nat} (h : n ≤ 4096) : ∃ M, newD ((namesI n).map fun s => (s, [])) 1 = some (freshD 1 M) ∧ M.length = n ∧ Asc M ∧ ∀ t : ByteArray, t.size ≠ 3 → getM M t = none := by
  obtain ⟨M, h1, h2, h3, h4⟩ := newL_many (namesI n) [] (fun s hs => (namesI_mem h hs).2) (namesI_pair h) (fun _ _ => rfl) List.Pairwise.nil rfl
  rw [namesI_length] at h2
  refine ⟨M, ?_, by rw [h2]; simp, h3, fun t ht => ?_⟩
  · rw [newD_good (by rw [List.length_map, namesI_length]; omega), h1]; rfl
  · rw [h4 t (fun x => ht (namesI_mem h x).1)]; rfl
/-- A file is created, if there is room for it. -/
theorem create_next {M : List (ByteArray × PF)} {k : Int} {s : ByteArray} (hA : Asc M) (hn : nameB s = true) (hg : getM M s = none) :
    ∃ M' e, createD ⟨M, 1, false, k, -1, 0, -1⟩ s = (⟨M', 1, false, wrap64 (k + 1), -1, 0, -1⟩, e) ∧ Asc M' ∧ (∀ t, t ≠ s → getM M' t = getM M t) ∧
      ((4096 ≤ M.length ∧ e = 6 ∧ M'.length = M.length) ∨ (M.length < 4096 ∧ e = 0 ∧ M'.length = M.length + 1)) := by
  have hb : beginD ⟨M, 1, false, k, -1, 0, -1⟩ = (⟨M, 1, false, wrap64 (k + 1), -1, 0, -1⟩, 0) := by
    unfold beginD countedD
    simp only [Bool.false_eq_true, if_false]
    rw [if_neg (by decide)]
    rfl
  have hc : createD ⟨M, 1, false, k, -1, 0, -1⟩ s = createF s ⟨M, 1, false, wrap64 (k + 1), -1, 0, -1⟩ := by
    unfold createD behindD
    rw [hb, if_pos rfl]
  by_cases h : 4096 ≤ M.length
  · refine ⟨M, 6, ?_, hA, fun _ _ => rfl, .inl ⟨h, rfl, rfl⟩⟩
    rw [hc]
    unfold createF
    rw [if_neg (by rw [hn]; decide), if_neg (by simp only; rw [hg]; decide), if_pos h]
  · have e1 := len_put hA.pair s (⟨[], 0⟩ : PF)
    have e2 := len_del hA.pair s
    rw [hg] at e2
    simp only [Option.isSome_none, Bool.false_eq_true, if_false] at e2
    refine ⟨putS M s ⟨[], 0⟩, 0, ?_, putS_asc hA s _, fun t ht => ?_, .inr ⟨by omega, rfl, by omega⟩⟩
    · rw [hc]
      unfold createF
      rw [if_neg (by rw [hn]; decide), if_neg (by simp only; rw [hg]; decide), if_neg h]
    · rw [getM_put, if_neg (Ne.symm ht)]
def nmX : ByteArray := { data := #[120, 45] }
def nmY : ByteArray := { data := #[121, 45] }
def nmZ : ByteArray := { data := #[122, 45] }
/-- Three are created. -/
theorem create_three {n : Nat} (h1 : 4094 ≤ n) (h2 : n ≤ 4096) : ∃ M0 M1 M2 M3 e f g, newD ((namesI n).map fun s => (s, [])) 1 = some (freshD 1 M0) ∧ createD (freshD 1 M0) nmX = (⟨M1, 1, false, 1, -1, 0, -1⟩, e) ∧
    createD ⟨M1, 1, false, 1, -1, 0, -1⟩ nmY = (⟨M2, 1, false, 2, -1, 0, -1⟩, f) ∧ createD ⟨M2, 1, false, 2, -1, 0, -1⟩ nmZ = (⟨M3, 1, false, 3, -1, 0, -1⟩, g) ∧
    M3.length = 4096 ∧ (e = 6 ∨ e = 0) ∧ (f = 6 ∨ f = 0) ∧ (g = 6 ∨ g = 0) ∧ ([e, f, g].filter (· == (6 : Int))).length = n - 4093 := by
  obtain ⟨M0, a1, a2, a3, a4⟩ := newD_many h2
  obtain ⟨M1, e, b1, b2, b3, b4⟩ := create_next (k := 0) (s := nmX) a3 (by decide +kernel) (a4 nmX (by decide))
  obtain ⟨M2, f, c1, c2, c3, c4⟩ := create_next (k := 1) (s := nmY) b2 (by decide +kernel) (by rw [b3 nmY (by decide)]; exact a4 nmY (by decide))
  obtain ⟨M3, g, d1, d2, d3, d4⟩ := create_next (k := 2) (s := nmZ) c2 (by decide +kernel) (by rw [c3 nmZ (by decide), b3 nmZ (by decide)]; exact a4 nmZ (by decide))
  rw [show wrap64 (0 + 1) = 1 by unfold wrap64; omega] at b1
  rw [show wrap64 (1 + 1) = 2 by unfold wrap64; omega] at c1
  rw [show wrap64 (2 + 1) = 3 by unfold wrap64; omega] at d1
  refine ⟨M0, M1, M2, M3, e, f, g, a1, b1, c1, d1, ?_, ?_, ?_, ?_, ?_⟩
  · omega
  · omega
  · omega
  · omega
  · obtain h | h | h : n = 4094 ∨ n = 4095 ∨ n = 4096 := by omega
    · obtain rfl : e = 0 := by omega
      obtain rfl : f = 0 := by omega
      obtain rfl : g = 6 := by omega
      rw [h]; rfl
    · obtain rfl : e = 0 := by omega
      obtain rfl : f = 6 := by omega
      obtain rfl : g = 6 := by omega
      rw [h]; rfl
    · obtain rfl : e = 6 := by omega
      obtain rfl : f = 6 := by omega
      obtain rfl : g = 6 := by omega
      rw [h]; rfl
end Go.Proofs.YtficodklidaheaaDoor
/- A slice of structs that came in, field by field. -/
namespace Go.Proofs.YtficodklidaheaaDoor
open Go.ChangeShapes Go.WideShapes Go.Deep Go.RowKit

/-- Each element of a slice of structs (of fields of one cell each) lies in its cells, and each field reads by its own type. -/
theorem recs_of {H : Type} {enc : TypeId × Value → H} {P : Program} {W : World} {sp : Nat} {T E : TypeId} {fs : Array Field} {a : Option Addr} {len cap : Nat} {d : DataW H} {p : List MemPlace}
    (hT : P.underlying T = some (.slice E)) (hE : P.underlying E = some (.struct fs)) (hone : oneCellFields P fs = true) (hC : P.cellsOf E = fs.size) (h : DataW.Trod enc P W sp (fun _ => true) true T (.slice a len cap) d p) :
    (a = none ∧ len = 0 ∧ cap = 0) ∨
    ∃ x, a = some x ∧ len ≤ cap ∧ cap ≤ maxLen ∧ ∀ i, i < len → ∀ (j : Nat) (f : Field), fs[j]? = some f → ∃ (v : Value) (n : Nat) (y : DataW H × List MemPlace), W.cell? (x.add (i * fs.size + j)) = some v ∧ DataW.trod enc P W sp (fun _ => true) true n f.type [v] = some y := by
  obtain ⟨fuel, hf⟩ := h
  rcases open_slice hT hf with ⟨hcs, _⟩ | ⟨x, l, c, m, n, D, Pl, hcs, _, hl, hm, hmm, _, hi⟩
  · simp [Value.cells] at hcs
    obtain ⟨rfl, rfl, rfl⟩ := hcs
    exact .inl ⟨rfl, rfl, rfl⟩
  · simp [Value.cells] at hcs
    obtain ⟨rfl, rfl, rfl⟩ := hcs
    refine .inr ⟨x, rfl, hl, hm, fun i hil j f hj => ?_⟩
    obtain ⟨cs', hc, ht'⟩ := hi i (by simp at hmm; omega)
    rw [hC] at hc
    obtain ⟨ys, n', _, _, _, hyl, hg⟩ := DataW.trod_struct hE ht'
    obtain ⟨_, hcl, hat⟩ := World.cells?_some hc
    obtain ⟨ho, hk⟩ := hone_of hone j f hj
    have hjl : j < fs.size := (Array.getElem?_eq_some_iff.1 hj).1
    have h1 := hg j f hj
    rw [ho, hk, List.drop_eq_getElem_cons (by omega), List.take_succ_cons, List.take_zero, List.getElem?_eq_getElem (by omega)] at h1
    refine ⟨cs'[j]'(by omega), n', _, ?_, h1⟩
    rw [← Go.Deep.add_add, hat j hjl, List.getElem?_eq_getElem (by omega)]
end Go.Proofs.YtficodklidaheaaDoor
/- Fields of structs that came in, read by their types; a list chosen element by element. It imports nothing of a translation. -/
namespace Go.Proofs.YtficodklidaheaaDoor
open Go.ChangeShapes Go.WideShapes Go.ChangeAt Go.RowKit Go.Deep

theorem trod_row {H : Type} {enc : TypeId × Value → H} {P : Program} {T E : TypeId} {k : IntKind} {W : World} {sp n : Nat} {v : Value} {y : DataW H × List MemPlace}
    (hT : P.underlying T = some (.slice E)) (hE : P.underlying E = some (.int k)) (hc : P.cellsOf E = 1) (h : DataW.trod enc P W sp (fun _ => true) true n T [v] = some y) : ∃ ao len cap zs, v = .slice ao len cap ∧ IsRow k W ao len cap zs := by
  rcases open_ints hT hE hc h with ⟨hcs, _⟩ | ⟨x, l, c, zs, hcs, _, hl, hm, hz, _, hcell, hwz⟩
  · injection hcs with e _
    exact ⟨none, 0, 0, [], e, .inl ⟨rfl, rfl, rfl, rfl⟩⟩
  · injection hcs with e _
    exact ⟨some x, l, c, zs, e, .inr ⟨_, rfl, hl, hm, by simpa using hz, hcell, hwz⟩⟩
theorem trod_i64 {H : Type} {enc : TypeId × Value → H} {P : Program} {T : TypeId} {k : IntKind} {W : World} {sp n : Nat} {v : Value} {y : DataW H × List MemPlace}
    (hT : P.underlying T = some (.int k)) (h : DataW.trod enc P W sp (fun _ => true) true n T [v] = some y) : ∃ x, v = .int k x ∧ (Lit.int k x).wf = true := by
  obtain ⟨x, e, _, hw⟩ := DataW.trod_int hT h
  injection e with e _
  exact ⟨x, e, hw⟩
theorem wf_u8 (x : Int) (h : (Lit.int .u8 x).wf = true) : 0 ≤ x ∧ x < (256 : Nat) := by
  have := bd_u8 h; omega
theorem isRow_cap {k : IntKind} {w : World} {a : Option Addr} {len cap : Nat} {zs : List Int} (h : IsRow k w a len cap zs) : len ≤ cap ∧ cap ≤ maxLen := by
  rcases h with ⟨rfl, rfl, rfl, rfl⟩ | ⟨x, rfl, hlc, hm, _⟩
  · exact ⟨Nat.le_refl _, by unfold maxLen; omega⟩
  · exact ⟨hlc, hm⟩
theorem choose_list {α : Type} {n : Nat} {P : Nat → α → Prop} (h : ∀ i, i < n → ∃ r, P i r) : ∃ l : List α, l.length = n ∧ ∀ i r, l[i]? = some r → P i r := by
  induction n with
  | zero => exact ⟨[], rfl, by simp⟩
  | succ n ih =>
    obtain ⟨l, hl, hp⟩ := ih (fun i hi => h i (by omega))
    obtain ⟨r, hr⟩ := h n (by omega)
    refine ⟨l ++ [r], by simp [hl], fun i r' hi => ?_⟩
    rw [List.getElem?_append] at hi
    split at hi
    · exact hp i r' hi
    · rename_i h1
      have h2 : i - l.length = 0 := by
        rcases Nat.eq_zero_or_pos (i - l.length) with h | h
        · exact h
        · rw [List.getElem?_eq_none (by simp; omega)] at hi; cases hi
      rw [h2] at hi
      simp at hi
      have h3 : i = n := by omega
      subst hi; rw [h3]; exact hr
/-- A new block whose cells are a row's. -/
theorem own_fresh (w : World) (E : TypeId) (s : Nat) (xs : List Value) (n : Nat) (hl : xs.length = n * s) (hm : n ≤ maxLen) : (w.alloc (.cells xs.toArray E)).ownsRow w.heap.size E s (.slice (some ⟨w.heap.size, 0, none⟩) n n) n xs :=
  ⟨hl, .inr ⟨w.heap.size, n, _, rfl, Nat.le_refl _, heap_alloc_new w _, Nat.le_refl _, hm, by simp [hl], by rw [← hl]; simp⟩⟩
end Go.Proofs.YtficodklidaheaaDoor
