/- Texts put together: F20. -/
import Derived.Test.YtficodklidaheaaDoorZz7
import Derived.Test.YtficodklidaheaaDoorZz23
import Derived.Deep.WholeRow
import Derived.Test.YtficodklidaheaaDoorZz24
/- package limnographref04: First. -/
namespace Go.Proofs.YtficodklidaheaaDoor
open Go.RowKit
attribute [local go_sem ↓] Go.wp_at_zero Go.wp_at_succ

theorem strN_inj {a b : List Nat} (ha : ∀ x ∈ a, x < 256) (hb : ∀ x ∈ b, x < 256) (h : strN a = strN b) : a = b := by
  have h1 : a.map UInt8.ofNat = b.map UInt8.ofNat := by rw [← strN_data, ← strN_data, h]
  have key : ∀ l : List Nat, (∀ x ∈ l, x < 256) → (l.map UInt8.ofNat).map UInt8.toNat = l := by
    intro l hl
    rw [List.map_map]
    conv => rhs; rw [← List.map_id l]
    refine List.map_congr_left fun x hx => ?_
    have := hl x hx
    simp; omega
  rw [← key a ha, ← key b hb, h1]
theorem four_num (s : List Nat) (hs : s.length = 4) (hb : ∀ x ∈ s, x < 256) : fourL (numL s) = s := by
  obtain ⟨a, b, c, d, rfl⟩ : ∃ a b c d, s = [a, b, c, d] := by
    match s, hs with
    | [a, b, c, d], _ => exact ⟨a, b, c, d, rfl⟩
  have ha := hb a (by simp)
  have hb' := hb b (by simp)
  have hc := hb c (by simp)
  have hd := hb d (by simp)
  simp [numL, fourL]
  omega
/-- A row of bytes that has a whole frame's length begins with its head, four bytes, and its payload. -/
theorem split_frame (R : List Nat) (hb : ∀ x ∈ R, x < 256) (h0 : R.getD 0 0 = 165) (hl : 9 + sizeL R ≤ R.length) :
    R.take (9 + sizeL R) = headL (payL R) ++ (R.drop 5).take 4 ++ payL R ∧ R.take 5 = headL (payL R) := by
  have hp : (payL R).length = sizeL R := by unfold payL; rw [List.length_take, List.length_drop]; omega
  have hd1 : (R.drop 1).take 4 = fourL (sizeL R) := by
    unfold sizeL
    rw [four_num _ (by rw [List.length_take, List.length_drop]; omega) (fun x hx => hb x (List.mem_of_mem_drop (List.mem_of_mem_take hx)))]
  have h5 : R.take 5 = headL (payL R) := by
    cases R with
    | nil => simp at hl
    | cons x r =>
      have hx : x = 165 := by simpa using h0
      subst hx
      unfold headL
      rw [hp, ← hd1]
      simp
  refine ⟨?_, h5⟩
  rw [← h5]
  have e : 9 + sizeL R = 5 + (4 + sizeL R) := by omega
  rw [e, List.take_add, List.take_add, List.append_assoc, List.drop_drop]
  rfl
theorem sum_same (R : List Nat) (hb : ∀ x ∈ R, x < 256) (h0 : R.getD 0 0 = 165) (hl : 9 + sizeL R ≤ R.length) : (frameL (payL R) = R.take (9 + sizeL R)) ↔ crcMore (crcMore 0 (R.take 5)) (payL R) = wantL R := by
  obtain ⟨h1, h5⟩ := split_frame R hb h0 hl
  have h4 : ((R.drop 5).take 4).length = 4 := by rw [List.length_take, List.length_drop]; omega
  have hb4 : ∀ x ∈ (R.drop 5).take 4, x < 256 := fun x hx => hb x (List.mem_of_mem_drop (List.mem_of_mem_take hx))
  rw [h1, h5]
  show headL (payL R) ++ fourL (sumL (payL R)) ++ payL R = _ ↔ sumL (payL R) = numL ((R.drop 5).take 4)
  constructor
  · intro h
    have h2 := List.append_cancel_right h
    have h3 := List.append_cancel_left h2
    rw [← num_four _ (sumL_lt (payL R)), h3]
  · intro h
    rw [h, four_num _ h4 hb4]

/-- What the document's First answers of the bytes R from a place on. -/
def RefGot (vb : Value) (l : List Nat) (w : World) (R : List Nat) (e : Ending) (w' : World) : Prop :=
  if firstE R = 0 then ∃ a c, e = .returned (.agg #[.slice a (sizeL R) c, .int .i64 ((9 + sizeL R : Nat) : Int), .int .i64 0]) ∧ (∀ w0, Row8 w0 vb l → Row8 w0 (.slice a (sizeL R) c) (payL R)) ∧ Kept (fun _ => False) w w'
  else e = .returned (.agg #[.slice none 0 0, .int .i64 0, .int .i64 ((firstE R : Nat) : Int)]) ∧ Kept (fun _ => False) w w'
theorem RefGot.bad {vb : Value} {l0 : List Nat} {w w' : World} {l : List Nat} {n : Nat} (hn : firstE l = n) (h0 : n ≠ 0) (hk : Kept (fun _ => False) w w') : RefGot vb l0 w l (.returned (.agg #[.slice none 0 0, .int .i64 0, .int .i64 (n : Int)])) w' := by
  unfold RefGot; rw [if_neg (by omega), hn]; exact ⟨rfl, hk⟩
theorem kept_setRow {W w : World} {g : Nat} (h : Kept (fun _ => False) W w) (hg : W.heap.size ≤ g) (cs : Array Value) : Kept (fun _ => False) W (w.setRow g cs) :=
  h.step (S' := fun k => k = g) ⟨rfl, rfl, rfl, by simp [World.setRow], fun k hk hn => setRow_other w g k cs (fun e => hn e)⟩ (fun k hk e => by omega)
/-- The number whose bytes from the highest on are read, with i bytes left. -/
def AccN (B : Nat → Nat) (i n : Nat) : Prop :=
  (i = 4 ∧ n = 0) ∨ (i = 3 ∧ n = B 4) ∨ (i = 2 ∧ n = 256 * B 4 + B 3) ∨ (i = 1 ∧ n = 256 * (256 * B 4 + B 3) + B 2) ∨ (i = 0 ∧ n = 256 * (256 * (256 * B 4 + B 3) + B 2) + B 1)
theorem AccN.step {B : Nat → Nat} {i n : Nat} (h : AccN B i n) (h0 : 0 < i) : AccN B (i - 1) (256 * n + B i) := by
  rcases h with ⟨rfl, rfl⟩ | ⟨rfl, rfl⟩ | ⟨rfl, rfl⟩ | ⟨rfl, rfl⟩ | ⟨rfl, rfl⟩
  · exact .inr (.inl ⟨rfl, by omega⟩)
  · exact .inr (.inr (.inl ⟨rfl, rfl⟩))
  · exact .inr (.inr (.inr (.inl ⟨rfl, rfl⟩)))
  · exact .inr (.inr (.inr (.inr ⟨rfl, rfl⟩)))
  · omega
theorem AccN.lt {B : Nat → Nat} {i n : Nat} (h : AccN B i n) (hB : ∀ i, B i < 256) : n < 4294967296 ∧ (0 < i → n < 16777216) := by
  have h1 := hB 1
  have h2 := hB 2
  have h3 := hB 3
  have h4 := hB 4
  rcases h with ⟨rfl, rfl⟩ | ⟨rfl, rfl⟩ | ⟨rfl, rfl⟩ | ⟨rfl, rfl⟩ | ⟨rfl, rfl⟩ <;> omega
theorem AccN.le {B : Nat → Nat} {i n : Nat} (h : AccN B i n) : i ≤ 4 := by
  rcases h with ⟨rfl, rfl⟩ | ⟨rfl, rfl⟩ | ⟨rfl, rfl⟩ | ⟨rfl, rfl⟩ | ⟨rfl, rfl⟩ <;> omega

theorem three_set {w : World} {g : Nat} {a b c x y z : Value} {T : TypeId} (h : w.heap[g]? = some (.cells #[a, b, c] T (0, 0))) : (((w.setCell ⟨g, 0, none⟩ x).setCell ⟨g, 1, none⟩ y).setCell ⟨g, 2, none⟩ z).heap[g]? = some (.cells #[x, y, z] T (0, 0)) := by
  have h1 := heap_setCell_same _ _ 0 _ _ x h
  have h2 := heap_setCell_same _ _ 1 _ _ y h1
  have h3 := heap_setCell_same _ _ 2 _ _ z h2
  simpa using h3
theorem three_kept {W w : World} {g : Nat} {x y z : Value} (h : Kept (fun _ => False) W w) (hg : W.heap.size ≤ g) : Kept (fun _ => False) W (((w.setCell ⟨g, 0, none⟩ x).setCell ⟨g, 1, none⟩ y).setCell ⟨g, 2, none⟩ z) :=
  ((h.setCell (p := ⟨g, 0, none⟩) (fun hlt => by simp only at hlt; omega) x).setCell (p := ⟨g, 1, none⟩) (fun hlt => by simp only at hlt; omega) y).setCell (p := ⟨g, 2, none⟩) (fun hlt => by simp only at hlt; omega) z
theorem got_info : (Tryd.prog.info? 28).map (·.size) = some 3 := by kernel_rfl

set_option maxHeartbeats 4000000 in
set_option maxRecDepth 100000 in
theorem refFirst_any (ao : Option Addr) (c : Nat) (l : List Nat) (U : Nat) (hl : l.length ≤ 1000000000) (hcap : l.length ≤ c) (hU : U ≤ l.length) (w : World) (HB : Row8 w (.slice ao l.length c) l) :
    Calls Tryd.prog 14 #[.slice ao l.length c, .int .i64 U] w (RefGot (.slice ao l.length c) l w (l.drop U)) := by
  obtain ⟨i0, hi, hz0, hz1, hz2⟩ := info_parts info_u8
  have hb := HB.lt
  have hbR : ∀ x ∈ l.drop U, x < 256 := fun x hx => hb x (List.mem_of_mem_drop hx)
  have hRl : (l.drop U).length = l.length - U := List.length_drop
  have HRES : ∀ w', Kept (fun _ => False) (w.alloc (.cells #[.slice none 0 0, .int .i64 0, .int .i64 0] 28)) w' → w'.heap[w.heap.size]? = some (.cells #[.slice none 0 0, .int .i64 0, .int .i64 0] 28 (0, 0)) := fun w' hk => hk.same (heap_alloc_new w _) (fun x => x)
  have HRS := Lib.hid HRES
  have KA : Kept (fun _ => False) w (w.alloc (.cells #[.slice none 0 0, .int .i64 0, .int .i64 0] 28)) := (Kept.refl _ _).alloc _
  have HKA := Lib.hid KA
  obtain ⟨R, hR⟩ : ∃ R, R = l.drop U := ⟨_, rfl⟩
  rw [← hR] at hbR hRl ⊢
  obtain ⟨VB, hVB⟩ : ∃ VB, VB = Value.slice ao l.length c := ⟨_, rfl⟩
  rw [show RefGot (.slice ao l.length c) l = RefGot VB l by rw [hVB]]
  obtain ⟨N, hN⟩ : ∃ N, N = l.length := ⟨_, rfl⟩
  have HVB0 := Lib.hid hVB
  clear hVB
  rw [← hN] at hU hl hcap hRl ⊢
  obtain ⟨LF, hLF⟩ : ∃ LF, LF + U = N := ⟨N - U, by omega⟩
  rw [show N - U = LF by omega] at hRl
  have f1 : (N : Int) - (U : Int) = (LF : Int) := by omega
  have f2 : IntKind.i64.wrap (LF : Int) = (LF : Int) := IntWalk.i64_in _ ⟨by omega, by omega⟩
  have HRB := Lib.hid hbR
  have HRl := Lib.hid hRl
  have HRe := Lib.hid hR
  have HNe := Lib.hid hN
  have HB' := Lib.hid HB
  clear KA HRES hb hbR hRl hR hN HB
  by_cases h1 : LF < 1
  · have q1 : decide ((LF : Int) < 1) = true := decide_eq_true (by omega)
    have HE := Lib.hid (fun w' (hk : Kept (fun _ => False) w w') => RefGot.bad (vb := VB) (l0 := l) (n := 2) (w := w) (w' := w') (l := R) (by unfold firstE; rw [if_pos (by rw [HRl.out]; omega)]) (by omega) hk)
    clear hU hl hcap hLF h1
    go_enter Tryd.func14, Tryd.ntmps14
    go_wp2
    refine bodyPost_ret (v := .agg #[.slice none 0 0, .int .i64 0, .int .i64 2]) ?_ rfl ?_
    · exact results_cell_row Tryd.results14 _ _ w.heap.size 28 _ (0, 0) _ rfl (heap_alloc_new w _) Tryd.underlying28 rfl got_info
    · exact HE.out _ ((Kept.refl _ _).alloc _)

  have q1 : decide ((LF : Int) < 1) = false := decide_eq_false (by omega)
  have hcc : ∃ a, ao = some a ∧ ∀ j, j < N → w.cell? (a.add j) = some (.int .u8 ((l.getD j 0 : Nat) : Int)) := by
    obtain ⟨ao', c', e, _, hc⟩ := HB'.out
    cases e
    obtain ⟨a, rfl, _⟩ := hc U (by rw [← HNe.out]; omega)
    refine ⟨a, rfl, fun j hj => ?_⟩
    obtain ⟨a', e, h⟩ := hc j (by rw [← HNe.out]; exact hj)
    cases e
    exact h
  obtain ⟨a, rfl, hca⟩ := hcc
  have hg : ∀ i, l.getD (U + i) 0 = R.getD i 0 := fun i => by rw [HRe.out]; simp only [List.getD_eq_getElem?_getD, List.getElem?_drop]
  have g0 := HKA.out.cell (hca U (by omega)) (fun x => x)
  have hgU := hg 0
  rw [Nat.add_zero] at hgU
  rw [hgU] at g0
  obtain ⟨X, hX⟩ : ∃ X, X = R.getD 0 0 := ⟨_, rfl⟩
  rw [← hX] at g0
  have HX := Lib.hid hX
  clear hgU hX
  have p0 : (0 : Int) ≤ (U : Int) := by omega
  have p1 : (U : Int) < (N : Int) := by omega
  by_cases h2 : X ≠ 165
  · have q2 : ((X : Int) != 165) = true := by simp; omega
    have HE := Lib.hid (fun w' (hk : Kept (fun _ => False) w w') => RefGot.bad (vb := VB) (l0 := l) (n := 3) (w := w) (w' := w') (l := R) (by unfold firstE; rw [if_neg (by rw [HRl.out]; omega), ← HX.out, if_pos h2]) (by omega) hk)
    clear hU hl hcap hLF h1 hg hca
    go_enter Tryd.func14, Tryd.ntmps14
    go_wp2
    refine bodyPost_ret (v := .agg #[.slice none 0 0, .int .i64 0, .int .i64 3]) ?_ rfl ?_
    · exact results_cell_row Tryd.results14 _ _ w.heap.size 28 _ (0, 0) _ rfl (heap_alloc_new w _) Tryd.underlying28 rfl got_info
    · exact HE.out _ ((Kept.refl _ _).alloc _)

  have q2 : ((X : Int) != 165) = false := by simp; omega
  by_cases h3 : LF < 9
  · have q3 : decide ((LF : Int) < 9) = true := decide_eq_true (by omega)
    have HE := Lib.hid (fun w' (hk : Kept (fun _ => False) w w') => RefGot.bad (vb := VB) (l0 := l) (n := 2) (w := w) (w' := w') (l := R) (by unfold firstE; rw [if_neg (by rw [HRl.out]; omega), ← HX.out, if_neg h2, if_pos (by rw [HRl.out]; exact h3)]) (by omega) hk)
    clear hU hl hcap hLF h1 hg hca
    go_enter Tryd.func14, Tryd.ntmps14
    go_wp2
    refine bodyPost_ret (v := .agg #[.slice none 0 0, .int .i64 0, .int .i64 2]) ?_ rfl ?_
    · exact results_cell_row Tryd.results14 _ _ w.heap.size 28 _ (0, 0) _ rfl (heap_alloc_new w _) Tryd.underlying28 rfl got_info
    · exact HE.out _ ((Kept.refl _ _).alloc _)

  have q3 : decide ((LF : Int) < 9) = false := decide_eq_false (by omega)
  obtain ⟨B, hB⟩ : ∃ B : Nat → Nat, B = fun i => R.getD i 0 := ⟨_, rfl⟩
  have HBlt : Hid (∀ i, B i < 256) := Lib.hid fun i => by
    rw [hB]
    simp only
    by_cases h : i < R.length
    · exact getD_lt HRB.out h
    · rw [List.getD_eq_getElem?_getD, List.getElem?_eq_none (by omega)]; simp
  have HCB : Hid (∀ i, i ≤ 4 → (w.alloc (.cells #[.slice none 0 0, .int .i64 0, .int .i64 0] 28)).cell? (a.add (U + i)) = some (.int .u8 ((B i : Nat) : Int))) := Lib.hid fun i hi => by
    have := HKA.out.cell (hca (U + i) (by omega)) (fun x => x)
    rw [hg i] at this
    rw [hB]; exact this
  have HSZ : Hid (256 * (256 * (256 * B 4 + B 3) + B 2) + B 1 = sizeL R) := Lib.hid (by
    unfold sizeL numL
    have e : ∀ j, j < 4 → ((R.drop 1).take 4).getD j 0 = R.getD (1 + j) 0 := fun j hj => by
      simp only [List.getD_eq_getElem?_getD, List.getElem?_take, if_pos hj, List.getElem?_drop]
    rw [e 0 (by omega), e 1 (by omega), e 2 (by omega), e 3 (by omega), hB]
    simp only [Nat.add_zero, Nat.reduceAdd]
    omega)
  clear hca hg hB
  go_enter Tryd.func14, Tryd.ntmps14
  go_wp2
  go_loopw [6, 7] (fun x t wr => ∃ n i : Nat, AccN B i n ∧ x = .int .i64 n ∧ t = .int .i64 i ∧ w.alloc (.cells #[.slice none 0 0, .int .i64 0, .int .i64 0] 28) = wr) (fun _ t _ => (intOf t).toNat)
  case atStart => exact ⟨0, 4, .inl ⟨rfl, rfl⟩, rfl, rfl, rfl⟩
  case round =>
    obtain ⟨n, i, hacc, rfl, rfl, rfl⟩ := hrel
    have hi4 := hacc.le
    have hnl := hacc.lt HBlt.out
    by_cases hd : 0 < i
    · have HS := Lib.hid (hacc.step hd)
      have q4 : decide ((0 : Int) < (i : Int)) = true := decide_eq_true (by omega)
      have hcb := HCB.out i hi4
      have hbl := HBlt.out i
      have hn2 := hnl.2 hd
      obtain ⟨Bi, hBi⟩ : ∃ b, b = B i := ⟨_, rfl⟩
      rw [← hBi] at hcb hbl HS
      obtain ⟨V, hV⟩ : ∃ V, V = U + i := ⟨_, rfl⟩
      rw [← hV] at hcb
      have v1 : (U : Int) + (i : Int) = (V : Int) := by omega
      have v2 : IntKind.i64.wrap (V : Int) = (V : Int) := IntWalk.i64_in _ ⟨by omega, by omega⟩
      have v3 : (0 : Int) ≤ (V : Int) := by omega
      have v4 : (V : Int) < (N : Int) := by omega
      obtain ⟨M1, hM1⟩ : ∃ M, M = 256 * n := ⟨_, rfl⟩
      have m1 : 256 * (n : Int) = (M1 : Int) := by omega
      have m2 : IntKind.i64.wrap (M1 : Int) = (M1 : Int) := IntWalk.i64_in _ ⟨by omega, by omega⟩
      obtain ⟨M2, hM2⟩ : ∃ M, M = M1 + Bi := ⟨_, rfl⟩
      have m3 : (M1 : Int) + (Bi : Int) = (M2 : Int) := by omega
      have m4 : IntKind.i64.wrap (M2 : Int) = (M2 : Int) := IntWalk.i64_in _ ⟨by omega, by omega⟩
      have m5 : IntKind.i64.wrap (Bi : Int) = (Bi : Int) := IntWalk.i64_in _ ⟨by omega, by omega⟩
      obtain ⟨i1, hi1⟩ : ∃ k, k = i - 1 := ⟨_, rfl⟩
      have j1 : (i : Int) - 1 = (i1 : Int) := by omega
      have j2 : IntKind.i64.wrap (i1 : Int) = (i1 : Int) := IntWalk.i64_in _ ⟨by omega, by omega⟩
      rw [← hi1, ← hM1, ← hM2] at HS
      have hlt : i1 < i := by omega
      clear hBi hV hM1 hM2 hi1 hacc hnl hn2 hbl hcap hU hl hLF h1 h2 h3
      go_wp2
      go_roundw
      case rel => exact ⟨M2, i1, HS.out, rfl, rfl, trivial⟩
      case measure => simpa [intOf] using hlt
    · obtain rfl : i = 0 := by omega
      have hnv : n = sizeL R := by
        rcases hacc with ⟨h, _⟩ | ⟨h, _⟩ | ⟨h, _⟩ | ⟨h, _⟩ | ⟨_, h⟩
        · omega
        · omega
        · omega
        · omega
        · rw [h, HSZ.out]
      have HZ := Lib.hid hnv
      have hn1 := hnl.1
      clear hacc hnl hi4 hnv
      obtain ⟨Z, hZn⟩ : ∃ Z, Z = n := ⟨_, rfl⟩
      subst hZn
      by_cases h4 : 65536 < Z
      · have q4 : decide ((65536 : Int) < (Z : Int)) = true := decide_eq_true (by omega)
        have HE := Lib.hid (fun w' (hk : Kept (fun _ => False) w w') => RefGot.bad (vb := VB) (l0 := l) (n := 4) (w := w) (w' := w') (l := R) (by unfold firstE; rw [if_neg (by rw [HRl.out]; omega), ← HX.out, if_neg h2, if_neg (by rw [HRl.out]; exact h3), ← HZ.out, if_pos h4]) (by omega) hk)
        clear hU hl hcap hLF h1 hn1
        go_wp2
        refine bodyPost_ret (v := .agg #[.slice none 0 0, .int .i64 0, .int .i64 4]) ?_ rfl ?_
        · exact results_cell_row Tryd.results14 _ _ w.heap.size 28 _ (0, 0) _ rfl (heap_alloc_new w _) Tryd.underlying28 rfl got_info
        · exact HE.out _ ((Kept.refl _ _).alloc _)

      have q4 : decide ((65536 : Int) < (Z : Int)) = false := decide_eq_false (by omega)
      obtain ⟨Z9, hZ9⟩ : ∃ z, z = 9 + Z := ⟨_, rfl⟩
      have z1 : 9 + (Z : Int) = (Z9 : Int) := by omega
      have z2 : IntKind.i64.wrap (Z9 : Int) = (Z9 : Int) := IntWalk.i64_in _ ⟨by omega, by omega⟩
      by_cases h5 : LF < Z9
      · have q5 : decide ((LF : Int) < (Z9 : Int)) = true := decide_eq_true (by omega)
        have HE := Lib.hid (fun w' (hk : Kept (fun _ => False) w w') => RefGot.bad (vb := VB) (l0 := l) (n := 2) (w := w) (w' := w') (l := R) (by unfold firstE; rw [if_neg (by rw [HRl.out]; omega), ← HX.out, if_neg h2, if_neg (by rw [HRl.out]; exact h3), ← HZ.out, if_neg h4, if_pos (by rw [HRl.out]; omega)]) (by omega) hk)
        clear hU hl hcap hLF h1 hn1 hZ9
        go_wp2
        refine bodyPost_ret (v := .agg #[.slice none 0 0, .int .i64 0, .int .i64 2]) ?_ rfl ?_
        · exact results_cell_row Tryd.results14 _ _ w.heap.size 28 _ (0, 0) _ rfl (heap_alloc_new w _) Tryd.underlying28 rfl got_info
        · exact HE.out _ ((Kept.refl _ _).alloc _)

      have q5 : decide ((LF : Int) < (Z9 : Int)) = false := decide_eq_false (by omega)
      obtain ⟨U9, hU9⟩ : ∃ z, z = U + 9 := ⟨_, rfl⟩
      have u1 : (U : Int) + 9 = (U9 : Int) := by omega
      have u2 : IntKind.i64.wrap (U9 : Int) = (U9 : Int) := IntWalk.i64_in _ ⟨by omega, by omega⟩
      obtain ⟨UE, hUE⟩ : ∃ z, z = U9 + Z := ⟨_, rfl⟩
      have u3 : (U9 : Int) + (Z : Int) = (UE : Int) := by omega
      have u4 : IntKind.i64.wrap (UE : Int) = (UE : Int) := IntWalk.i64_in _ ⟨by omega, by omega⟩
      obtain ⟨A1, hA1⟩ : ∃ A, A = (if c = U9 then some a else (some a).map (·.add U9)) := ⟨_, rfl⟩
      obtain ⟨k1, hk1⟩ : ∃ k, k = c - U9 := ⟨_, rfl⟩
      have hZZ : UE - U9 = Z := by omega
      have s1 : ∀ w, (Instr.slice 22 (.slice (some a) N c) (some (.int .i64 (U9 : Int))) (some (.int .i64 (UE : Int))) none).run Tryd.prog w = .ok (.slice A1 Z k1) w := fun w => by
        rw [hA1, hk1, ← hZZ]; exact run_cut Tryd.underlying22 hi hz1 (some a) N c U9 UE (by omega) (by omega) w
      have s2 : ∀ w, (Instr.sliceAt 22 (.slice (some a) N c) (some (.int .i64 (U9 : Int))) (some (.int .i64 (UE : Int))) none).run Tryd.prog w = .ok (.slice A1 Z k1) w := fun w => by
        rw [hA1, hk1, ← hZZ]; exact run_cutAt Tryd.underlying22 hi hz1 (some a) N c U9 UE (by omega) (by omega) w
      obtain ⟨A2, hA2⟩ : ∃ A, A = (if c = U then some a else (some a).map (·.add U)) := ⟨_, rfl⟩
      obtain ⟨k2, hk2⟩ : ∃ k, k = c - U := ⟨_, rfl⟩
      have hZY : UE - U = Z9 := by omega
      have s3 : ∀ w, (Instr.slice 22 (.slice (some a) N c) (some (.int .i64 (U : Int))) (some (.int .i64 (UE : Int))) none).run Tryd.prog w = .ok (.slice A2 Z9 k2) w := fun w => by
        rw [hA2, hk2, ← hZY]; exact run_cut Tryd.underlying22 hi hz1 (some a) N c U UE (by omega) (by omega) w
      have s4 : ∀ w, (Instr.sliceAt 22 (.slice (some a) N c) (some (.int .i64 (U : Int))) (some (.int .i64 (UE : Int))) none).run Tryd.prog w = .ok (.slice A2 Z9 k2) w := fun w => by
        rw [hA2, hk2, ← hZY]; exact run_cutAt Tryd.underlying22 hi hz1 (some a) N c U UE (by omega) (by omega) w
      have hNl := HNe.out
      have R1 := HB'.out
      have R2 := (R1.cut (lo := U) (hi := UE) (by omega) (by omega) (by omega))
      have R1G : ∀ w0, Row8 w0 (.slice (some a) l.length c) l → Row8 w0 (.slice A1 Z k1) (payL R) := fun w0 h => by
        have R1 := h.cut (lo := U9) (hi := UE) (by omega) (by omega) (by omega)
        rw [← hA1, ← hk1, hZZ, show (l.drop U9).take Z = payL R by unfold payL; rw [HRe.out, ← HRe.out, ← HZ.out, HRe.out, List.drop_drop, hU9]] at R1
        exact R1
      replace R1 := R1G w R1
      rw [← hA2, ← hk2, hZY, ← HRe.out] at R2
      have hpl : (payL R).length = Z := by unfold payL; rw [← HZ.out, List.length_take, List.length_drop, HRl.out]; omega
      have W1 := fun w1 (hk : Kept (fun _ => False) w w1) => refWrap_any A1 k1 (payL R) (by omega) w1 (by rw [hpl]; exact R1.kept hk)
      unfold RefWrapped at W1
      rw [hpl, ← hZ9] at W1
      have HW1 := Lib.hid W1
      have QB := Lib.hid (fun w1 (hk : Kept (fun _ => False) w w1) => conv8 (R2.kept hk))
      have HR1 := Lib.hid R1
      have HVB := HVB0
      have HR1G : Hid (∀ w0, Row8 w0 VB l → Row8 w0 (.slice A1 Z k1) (payL R)) := Lib.hid (by rw [HVB.out]; exact R1G)
      have hsame := sum_same R HRB.out (by rw [← HX.out]; omega) (by rw [HRl.out, ← HZ.out]; omega)
      rw [← HZ.out, ← hZ9] at hsame
      have HPI := Lib.hid (strN_inj (a := frameL (payL R)) (b := R.take Z9) (frameL_lt _ R1.lt) R2.lt)
      have HSAME := Lib.hid hsame
      obtain ⟨S2, hS2⟩ : ∃ S, S = strN (R.take Z9) := ⟨_, rfl⟩
      rw [← hS2] at QB HPI
      obtain ⟨S1, hS1⟩ : ∃ S, S = strN (frameL (payL R)) := ⟨_, rfl⟩
      rw [← hS1] at HPI
      have HS1 := Lib.hid hS1
      have HS2 := Lib.hid hS2
      have HZ9 := Lib.hid hZ9
      clear hA1 hk1 hA2 hk2 hZZ hZY R1 R1G R2 hpl W1 hsame hS1 hS2 hNl hU9 hUE
      by_cases h6 : S1 = S2
      · have hEQ : firstE R = 0 := by
          unfold firstE
          rw [if_neg (by rw [HRl.out]; omega), ← HX.out, if_neg h2, if_neg (by rw [HRl.out]; exact h3), ← HZ.out, if_neg h4, if_neg (by rw [HRl.out]; omega), if_neg (by
            intro h
            exact h (HSAME.out.1 (HPI.out h6)))]
        have HE : Hid (∀ w' : World, (∀ w0, Row8 w0 VB l → Row8 w0 (.slice A1 Z k1) (payL R)) → Kept (fun _ => False) w w' → RefGot VB l w R (.returned (.agg #[.slice A1 Z k1, .int .i64 (Z9 : Int), .int .i64 0])) w') := Lib.hid fun w' h1 h2 => by
          unfold RefGot
          rw [if_pos hEQ, ← HZ.out, HZ9.out]
          exact ⟨A1, k1, rfl, h1, h2⟩
        subst h6
        clear hEQ hl hcap hn1 hZ9
        go_wp2_with (go_at_call 61; refine (HW1.out _ HKA.out).mono ?_; intro e w3 h7; obtain ⟨c3, g3, rfl, hr3, hk3⟩ := h7; have K3 := Lib.hid hk3; have qa := fun n => conv8 (hr3.kept ((Kept.refl _ w3).drewN n)); have qb := fun n => QB.out _ ((HKA.out.trans hk3).drewN n); rw [← HS1.out] at qa; clear hr3 hk3)
        go_quiet (fail)
        have hres := HRS.out _ (K3.out.drewN nq)
        have hc0 : (w3.drewN nq).cell? ⟨w.heap.size, 0, none⟩ = some (.slice none 0 0) := by rw [cell_of_row _ _ 0 _ _ _ hres]; rfl
        have hc1 : (w3.drewN nq).cell? ⟨w.heap.size, 1, none⟩ = some (.int .i64 0) := by rw [cell_of_row _ _ 1 _ _ _ hres]; rfl
        have hc2 : (w3.drewN nq).cell? ⟨w.heap.size, 2, none⟩ = some (.int .i64 0) := by rw [cell_of_row _ _ 2 _ _ _ hres]; rfl
        have hf0 : ∀ j, (w3.drewN nq).frozen? ⟨w.heap.size, j, none⟩ = false := fun j => frozen_of_row _ _ j _ _ hres
        have HRES := Lib.hid hres
        have HK4 := Lib.hid (HKA.out.trans (K3.out.drewN nq))
        obtain ⟨w4, hw4⟩ : ∃ w4, w4 = w3.drewN nq := ⟨_, rfl⟩
        rw [← hw4] at hc0 hc1 hc2 hf0 HRES HK4 ⊢
        have hf1 := hf0 0
        have hf2 := hf0 1
        have hf3 := hf0 2
        clear qa qb hres hw4 hf0
        go_wp2
        refine bodyPost_ret (v := .agg #[.slice A1 Z k1, .int .i64 (Z9 : Int), .int .i64 0]) ?_ rfl ?_
        · exact results_cell_row Tryd.results14 _ _ w.heap.size 28 _ (0, 0) _ rfl (three_set HRES.out) Tryd.underlying28 rfl got_info
        · exact HE.out _ HR1G.out (three_kept HK4.out (Nat.le_refl _))

      · have HE := Lib.hid (fun w' (hk : Kept (fun _ => False) w w') => RefGot.bad (vb := VB) (l0 := l) (n := 5) (w := w) (w' := w') (l := R) (by
          unfold firstE
          rw [if_neg (by rw [HRl.out]; omega), ← HX.out, if_neg h2, if_neg (by rw [HRl.out]; exact h3), ← HZ.out, if_neg h4, if_neg (by rw [HRl.out]; omega), if_pos (by
            intro h
            exact h6 (by rw [HS1.out, HS2.out, HSAME.out.2 h]))]) (by omega) hk)
        have q6 : (S1.toList == S2.toList) = false := beq_eq_false_iff_ne.2 (fun h => h6 (byteArray_eq (by rw [← ByteArray.toList_eq, ← ByteArray.toList_eq, h])))
        clear hl hcap hn1 hZ9
        go_wp2_with (go_at_call 61; refine (HW1.out _ HKA.out).mono ?_; intro e w3 h7; obtain ⟨c3, g3, rfl, hr3, hk3⟩ := h7; have K3 := Lib.hid hk3; have qa := fun n => conv8 (hr3.kept ((Kept.refl _ w3).drewN n)); have qb := fun n => QB.out _ ((HKA.out.trans hk3).drewN n); rw [← HS1.out] at qa; clear hr3 hk3)
        go_quiet (fail)
        have hres := HRS.out _ (K3.out.drewN nq)
        have hc0 : (w3.drewN nq).cell? ⟨w.heap.size, 0, none⟩ = some (.slice none 0 0) := by rw [cell_of_row _ _ 0 _ _ _ hres]; rfl
        have hc1 : (w3.drewN nq).cell? ⟨w.heap.size, 1, none⟩ = some (.int .i64 0) := by rw [cell_of_row _ _ 1 _ _ _ hres]; rfl
        have hc2 : (w3.drewN nq).cell? ⟨w.heap.size, 2, none⟩ = some (.int .i64 0) := by rw [cell_of_row _ _ 2 _ _ _ hres]; rfl
        have hf0 : ∀ j, (w3.drewN nq).frozen? ⟨w.heap.size, j, none⟩ = false := fun j => frozen_of_row _ _ j _ _ hres
        have HRES := Lib.hid hres
        have HK4 := Lib.hid (HKA.out.trans (K3.out.drewN nq))
        obtain ⟨w4, hw4⟩ : ∃ w4, w4 = w3.drewN nq := ⟨_, rfl⟩
        rw [← hw4] at hc0 hc1 hc2 hf0 HRES HK4 ⊢
        have hf1 := hf0 0
        have hf2 := hf0 1
        have hf3 := hf0 2
        clear qa qb hres hw4 hf0
        go_wp2
        refine bodyPost_ret (v := .agg #[.slice none 0 0, .int .i64 0, .int .i64 5]) ?_ rfl ?_
        · exact results_cell_row Tryd.results14 _ _ w.heap.size 28 _ (0, 0) _ rfl (three_set HRES.out) Tryd.underlying28 rfl got_info
        · exact HE.out _ (three_kept HK4.out (Nat.le_refl _))

end Go.Proofs.YtficodklidaheaaDoor
