/- Texts put together: Z7, Z8. -/
import Derived.Test.YtjpnfadmblmjbaaDoorZz4
import Derived.Test.YtjpnfadmblmjbaaDoorZz7
import Derived.Test.YtjpnfadmblmjbaaDoorZz10
/- package histbits: Put (written by tools/gen_XZ7.py). -/
namespace Go.Proofs.YtjpnfadmblmjbaaDoor
open Go.RowKit
attribute [local go_sem ↓] Go.wp_at_zero Go.wp_at_succ

set_option maxHeartbeats 8000000 in
set_option maxRecDepth 100000 in
theorem hput_any (W w : World) (p r n : Nat) (v gp gn pv nv : Value) (bs : List Bool) (g h : HistV) (X : HB W w p r v bs n g gp gn) (ha : HistAt w h pv nv)
    (hap : Apart p v h pv nv) (hok : h.ok) (hB0 : 0 < W.heap.size) (hn : n ≤ 100000) (hl : bs.length ≤ 50000000)
    (hp : h.pl.length ≤ 1000000) (hnl : h.nl.length ≤ 1000000) (hgp : g.pl.length ≤ 160) (hgn : g.nl.length ≤ 160) (HT : ClassTab W) :
    Calls Tryd.prog 39 #[.pointer (some ⟨r, 0, none⟩), .pointer (some ⟨p, 0, none⟩), histV h pv nv] w fun e w' => e = .returned (.int .i64 ((h.err : Nat) : Int)) ∧ ((h.err ≠ 0 ∧ Kept (fun _ => False) w w') ∨ (h.err = 0 ∧ PutTo W w w' p r v (bs ++ nextH n g h) (n + 1) h)) := by
  obtain ⟨⟨ao, c, rfl⟩, bo, d, rfl⟩ := ha.sl
  obtain ⟨a1, c1, rfl⟩ := X.mp.slice
  obtain ⟨a2, c2, rfl⟩ := X.mn.slice
  simp only [uvals_length] at X
  have HCK := Lib.hid fun w' (k : Kept (fun _ => False) w w') => histCheck_any h _ _ w' (ha.on k) hok hp hnl
  have HCO := Lib.hid fun w' (k : Kept (fun _ => False) w w') => countsOf_any h _ _ w' (ha.on k) hp hnl
  have HHA := Lib.hid fun w' (k : Kept (fun _ => False) w w') => ha.on k
  have HAP := Lib.hid hap
  have HPL := Lib.hid (And.intro hp hnl)
  have HB0 := Lib.hid hB0
  have HNN := Lib.hid (show n ≤ 1000000 by omega)
  have HL := Lib.hid hl
  have HGL := Lib.hid (show g.pl.length ≤ 1000000 ∧ g.nl.length ≤ 1000000 from ⟨by omega, by omega⟩)
  have HTT := Lib.hid fun w' (k : Kept (fun _ => False) W w') => HT.kept k
  have HLT := Lib.hid (getD_cntL h hok)
  have HSH := Lib.hid fun w' (k : Kept (fun _ => False) w w') => shapeOf_any h _ _ w' (ha.on k)
  have HSG := Lib.hid fun w' p1 n1 (k : HistAt w' g p1 n1) => shapeOf_any g p1 n1 w' k
  have HP0 := Lib.hid fun w' v' (b : BwAt w' W.heap.size p v' bs) (hB : W.heap.size ≤ w'.heap.size) => (show Calls Tryd.prog 48 #[.pointer (some ⟨p, 0, none⟩), .int .u64 0, .int .i64 1] w' _ from bput_yes W.heap.size p v' bs 0 1 w' b hB (by omega) (by decide) (by omega))
  have HP1 := Lib.hid fun w' v' (b : BwAt w' W.heap.size p v' bs) (hB : W.heap.size ≤ w'.heap.size) => (show Calls Tryd.prog 48 #[.pointer (some ⟨p, 0, none⟩), .int .u64 1, .int .i64 1] w' _ from bput_yes W.heap.size p v' bs 1 1 w' b hB (by omega) (by decide) (by omega))
  have hsz := X.mp.kept.size
  have HWW := Lib.hid hsz
  obtain ⟨C, hC⟩ : ∃ C, C = cntL h := ⟨_, rfl⟩
  obtain ⟨D, hD⟩ : ∃ D, D = cntL g := ⟨_, rfl⟩
  have hN := cntL_length h
  rw [← hC] at hN HCO HLT
  obtain ⟨N, hCN⟩ : ∃ N, N = C.length := ⟨_, rfl⟩
  rw [← hCN] at hN HCO
  have HCN := Lib.hid hCN.symm
  by_cases he : h.err = 0
  · have HE := Lib.hid he
    have HN := Lib.hid (show N ≤ 400 by have h1 := (err_light he).2.1; have h2 := (err_light he).2.2.1; have h3 := (sideE_zero h1).1; have h4 := (sideE_zero h2).1; omega)
    have HPS := Lib.hid fun w' v' bs' (b : BwAt w' W.heap.size p v' bs') (hB : W.heap.size ≤ w'.heap.size) (hl : bs'.length ≤ 100000000) (T : ClassTab w') => putShape_any W.heap.size p v' bs' h w' b hB0 hB hl T (err_light he).1 (sideE_zero (err_light he).2.1).1 (sideE_zero (err_light he).2.2.1).1 hok.po hok.no
    have HCK0 : Hid (∀ w', Kept (fun _ => False) w w' → Calls Tryd.prog 64 #[histV h (.slice ao h.pl.length c) (.slice bo h.nl.length d)] w' fun e w'' => e = .returned (.int .i64 0) ∧ Kept (fun _ => False) w' w'') := Lib.hid fun w' k => (HCK.out w' k).mono fun e w'' hh => ⟨by rw [hh.1, he]; rfl, hh.2⟩
    clear HCK
    have HCK := HCK0
    clear HCK0
    have HCL := Lib.hid (show (cntL h).length = N by rw [← hC]; exact hCN.symm)
    by_cases hn0 : n = 0
    · have HNB := Lib.hid (show nextH n g h = bitsN 0 1 ++ (shapeB h ++ C.flatMap smallB) by unfold nextH; rw [if_neg (fun e => absurd e.1 (by omega)), hC]; rfl)
      have z0 : ¬ (0 : Int) < (n : Int) := by omega
      have z1 : decide (0 < n) = false := decide_eq_false (by omega)
      have z2 : decide ((0 : Int) < (n : Int)) = false := decide_eq_false (by omega)
      have HWL := Lib.hid hsz
      obtain ⟨sc, ze, po, pl, no, nl⟩ := h
      obtain ⟨gsc, gze, gpo, gpl, gno, gnl⟩ := g
      unfold histV at HCK HCO ⊢
      simp only at hp hnl HCK HCO HHA HAP HPL HGL HNB HPS ⊢
      obtain ⟨w0, hw0⟩ : ∃ w0, w0 = w.alloc (.cells #[.int .i64 sc, .int .u64 (ze : Int), .int .i64 po, .slice ao pl.length c, .int .i64 no, .slice bo nl.length d] 62) := ⟨_, rfl⟩
      have HQ0 := Lib.hid (show HistBox w0 w.heap.size ⟨sc, ze, po, pl, no, nl⟩ (.slice ao pl.length c) (.slice bo nl.length d) by rw [hw0]; exact heap_alloc_new w _)
      have HK0 := Lib.hid (show Kept (fun _ => False) w w0 by rw [hw0]; exact (Kept.refl _ _).alloc _)
      have HX0 := Lib.hid (X.on HK0.out)
      have HW0 := Lib.hid hw0
      obtain ⟨q, hq⟩ : ∃ q, q = w.heap.size := ⟨_, rfl⟩
      have HQ := Lib.hid hq
      have HQN := Lib.hid (show q ≠ p ∧ v.ownBlock ≠ some q from ⟨by have := X.bw.lt; omega, fun e => by have := (ownsRow_lt X.bw.owns e).1; omega⟩)
      rw [← hq] at HQ0
      clear hw0 hq
      clear HSH HSG HP1
      clear hap hok hB0 hn hl hp hnl hgp hgn HT hsz hN hCN hC hD X ha he hn0
      go_enter Tryd.func39, Tryd.ntmps39
      go_upto_region 1 with fail
      rw [← HW0.out, ← HQ.out]
      obtain ⟨x0, x1, x2, x3, x4, x5⟩ := HistBox.c (h := ⟨sc, ze, po, pl, no, nl⟩) HQ0.out
      simp only at x0 x1 x2 x3 x4 x5
      go_wp2_with fail
      refine (HCK.out w0 HK0.out).mono ?_
      rintro e w1 ⟨rfl, k1⟩
      have HX1 := Lib.hid (HX0.out.on k1)
      have HQ1 := Lib.hid (HQ0.out.same k1 (fun x => x))
      have HK1 := Lib.hid (HK0.out.trans k1)
      clear k1
      clear x0 x1 x2 x3 x4 x5
      obtain ⟨x0, x1, x2, x3, x4, x5⟩ := HistBox.c (h := ⟨sc, ze, po, pl, no, nl⟩) HQ1.out
      simp only at x0 x1 x2 x3 x4 x5
      go_wp2_with fail
      refine (HCO.out w1 HK1.out).mono ?_
      rintro e w2 ⟨a3, c3, rfl, m2⟩
      skip
      have HX2 := Lib.hid (HX1.out.on m2.kept)
      have HQ2 := Lib.hid (HQ1.out.same m2.kept (fun x => x))
      have HK2 := Lib.hid (HK1.out.trans m2.kept)
      have HM2 := Lib.hid m2
      clear m2
      clear x0 x1 x2 x3 x4 x5
      have hd2 := (Kept.refl (fun _ => False) w2).drew
      have HX3 := Lib.hid (HX2.out.on hd2)
      have HQ3 := Lib.hid (HQ2.out.same hd2 (fun x => x))
      have HK3 := Lib.hid (HK2.out.trans hd2)
      have HM3 := Lib.hid (HM2.out.on hd2)
      clear hd2
      have HSS3 : Hid ((fun w' => w'.cell? ⟨q, 0, none⟩ = some (.int .i64 sc) ∧ w'.cell? ⟨q, 1, none⟩ = some (.int .u64 (ze : Int)) ∧ w'.cell? ⟨q, 2, none⟩ = some (.int .i64 po) ∧ w'.cell? ⟨q, 3, none⟩ = some (.slice ao pl.length c) ∧ w'.cell? ⟨q, 4, none⟩ = some (.int .i64 no) ∧ w'.cell? ⟨q, 5, none⟩ = some (.slice bo nl.length d) ∧ w'.cell? ⟨r, 0, none⟩ = some (.int .i64 (n : Int)) ∧ w'.cell? ⟨r, 1, none⟩ = some (.int .i64 gsc) ∧ w'.cell? ⟨r, 2, none⟩ = some (.int .u64 (gze : Int)) ∧ w'.cell? ⟨r, 3, none⟩ = some (.int .i64 gpo) ∧ w'.cell? ⟨r, 4, none⟩ = some (.slice a1 gpl.length c1) ∧ w'.cell? ⟨r, 5, none⟩ = some (.int .i64 gno) ∧ w'.cell? ⟨r, 6, none⟩ = some (.slice a2 gnl.length c2)) w2.drew) := by
        obtain ⟨x0, x1, x2, x3, x4, x5⟩ := HistBox.c (h := ⟨sc, ze, po, pl, no, nl⟩) HQ3.out
        obtain ⟨y0, y1, y2, y3, y4, y5, y6⟩ := HRow.c (h := ⟨gsc, gze, gpo, gpl, gno, gnl⟩) HX3.out.row
        exact Lib.hid ⟨x0, x1, x2, x3, x4, x5, y0, y1, y2, y3, y4, y5, y6⟩
      go_upto_region 5 with fail
      refine AnyBut.start (S := fun w' => w'.cell? ⟨q, 0, none⟩ = some (.int .i64 sc) ∧ w'.cell? ⟨q, 1, none⟩ = some (.int .u64 (ze : Int)) ∧ w'.cell? ⟨q, 2, none⟩ = some (.int .i64 po) ∧ w'.cell? ⟨q, 3, none⟩ = some (.slice ao pl.length c) ∧ w'.cell? ⟨q, 4, none⟩ = some (.int .i64 no) ∧ w'.cell? ⟨q, 5, none⟩ = some (.slice bo nl.length d) ∧ w'.cell? ⟨r, 0, none⟩ = some (.int .i64 (n : Int)) ∧ w'.cell? ⟨r, 1, none⟩ = some (.int .i64 gsc) ∧ w'.cell? ⟨r, 2, none⟩ = some (.int .u64 (gze : Int)) ∧ w'.cell? ⟨r, 3, none⟩ = some (.int .i64 gpo) ∧ w'.cell? ⟨r, 4, none⟩ = some (.slice a1 gpl.length c1) ∧ w'.cell? ⟨r, 5, none⟩ = some (.int .i64 gno) ∧ w'.cell? ⟨r, 6, none⟩ = some (.slice a2 gnl.length c2)) (k := 15) (by kernel_rfl) ?_
      refine AnyBut.takeS (i := 0) (v := ?v1) rfl (by kernel_rfl) (Nat.le_of_eq (by kernel_rfl)) (by kernel_rfl) (by kernel_rfl) (fun _ _ _ h => h) (HSS3.out) (Or.inl ⟨by kernel_rfl, ?hy1⟩) ?r1
      case hy1 =>
        intro w hSw
        try dsimp only at hSw
        go_simp
        try with_reducible rfl
      try simp only [Act.put, List.getElem_toArray, List.getElem_cons_zero, List.setIfInBounds_toArray, List.set_cons_zero, List.set_cons_succ]
      refine AnyBut.takeS (i := 1) (v := ?v2) rfl (by kernel_rfl) (Nat.le_of_eq (by kernel_rfl)) (by kernel_rfl) (by kernel_rfl) (fun _ _ _ h => h) (HSS3.out) (Or.inl ⟨by kernel_rfl, ?hy2⟩) ?r2
      case hy2 =>
        intro w hSw
        try dsimp only at hSw
        go_simp
        try with_reducible rfl
      try simp only [Act.put, List.getElem_toArray, List.getElem_cons_succ, List.getElem_cons_zero, List.setIfInBounds_toArray, List.set_cons_zero, List.set_cons_succ]
      refine AnyBut.takeS (i := 2) (v := ?v3) rfl (by kernel_rfl) (Nat.le_of_eq (by kernel_rfl)) (by kernel_rfl) (by kernel_rfl) (fun _ _ _ h => h) (HSS3.out) (Or.inl ⟨by kernel_rfl, ?hy3⟩) ?r3
      case hy3 =>
        intro w hSw
        try dsimp only at hSw
        go_simp
        try with_reducible rfl
      try simp only [Act.put, List.getElem_toArray, List.getElem_cons_succ, List.getElem_cons_zero, List.setIfInBounds_toArray, List.set_cons_zero, List.set_cons_succ]
      refine AnyBut.takeS (i := 3) (v := ?v4) rfl (by kernel_rfl) (Nat.le_of_eq (by kernel_rfl)) (by kernel_rfl) (by kernel_rfl) (fun _ _ _ h => h) (HSS3.out) (Or.inl ⟨by kernel_rfl, ?hy4⟩) ?r4
      case hy4 =>
        intro w hSw
        try dsimp only at hSw
        go_simp
        try with_reducible rfl
      try simp only [Act.put, List.getElem_toArray, List.getElem_cons_succ, List.getElem_cons_zero, List.setIfInBounds_toArray, List.set_cons_zero, List.set_cons_succ]
      refine AnyBut.takeS (i := 4) (v := ?v5) rfl (by kernel_rfl) (Nat.le_of_eq (by kernel_rfl)) (by kernel_rfl) (by kernel_rfl) (fun _ _ _ h => h) (HSS3.out) (Or.inl ⟨by kernel_rfl, ?hy5⟩) ?r5
      case hy5 =>
        intro w hSw
        try dsimp only at hSw
        go_simp
        try with_reducible rfl
      try simp only [Act.put, List.getElem_toArray, List.getElem_cons_succ, List.getElem_cons_zero, List.setIfInBounds_toArray, List.set_cons_zero, List.set_cons_succ]
      refine AnyBut.takeS (i := 5) (v := ?v6) rfl (by kernel_rfl) (Nat.le_of_eq (by kernel_rfl)) (by kernel_rfl) (by kernel_rfl) (fun _ _ _ h => h) (HSS3.out) (Or.inl ⟨by kernel_rfl, ?hy6⟩) ?r6
      case hy6 =>
        intro w hSw
        try dsimp only at hSw
        go_simp
        try with_reducible rfl
      try simp only [Act.put, List.getElem_toArray, List.getElem_cons_succ, List.getElem_cons_zero, List.setIfInBounds_toArray, List.set_cons_zero, List.set_cons_succ]
      refine AnyBut.takeS (i := 6) (v := undef) rfl (by kernel_rfl) (Nat.le_of_eq (by kernel_rfl)) (by kernel_rfl) (by kernel_rfl) (fun _ _ _ h => h) (HSS3.out) (Or.inr ⟨by kernel_rfl, rfl⟩) ?r7
      try simp only [Act.put, List.getElem_toArray, List.getElem_cons_succ, List.getElem_cons_zero, List.setIfInBounds_toArray, List.set_cons_zero, List.set_cons_succ]
      refine AnyBut.takeS (i := 7) (v := undef) rfl (by kernel_rfl) (Nat.le_of_eq (by kernel_rfl)) (by kernel_rfl) (by kernel_rfl) (fun _ _ _ h => h) (HSS3.out) (Or.inr ⟨by kernel_rfl, rfl⟩) ?r8
      try simp only [Act.put, List.getElem_toArray, List.getElem_cons_succ, List.getElem_cons_zero, List.setIfInBounds_toArray, List.set_cons_zero, List.set_cons_succ]
      refine AnyBut.takeS (i := 8) (v := undef) rfl (by kernel_rfl) (Nat.le_of_eq (by kernel_rfl)) (by kernel_rfl) (by kernel_rfl) (fun _ _ _ h => h) (HSS3.out) (Or.inr ⟨by kernel_rfl, rfl⟩) ?r9
      try simp only [Act.put, List.getElem_toArray, List.getElem_cons_succ, List.getElem_cons_zero, List.setIfInBounds_toArray, List.set_cons_zero, List.set_cons_succ]
      refine AnyBut.takeS (i := 9) (v := undef) rfl (by kernel_rfl) (Nat.le_of_eq (by kernel_rfl)) (by kernel_rfl) (by kernel_rfl) (fun _ _ _ h => h) (HSS3.out) (Or.inr ⟨by kernel_rfl, rfl⟩) ?r10
      try simp only [Act.put, List.getElem_toArray, List.getElem_cons_succ, List.getElem_cons_zero, List.setIfInBounds_toArray, List.set_cons_zero, List.set_cons_succ]
      refine AnyBut.takeS (i := 10) (v := undef) rfl (by kernel_rfl) (Nat.le_of_eq (by kernel_rfl)) (by kernel_rfl) (by kernel_rfl) (fun _ _ _ h => h) (HSS3.out) (Or.inr ⟨by kernel_rfl, rfl⟩) ?r11
      try simp only [Act.put, List.getElem_toArray, List.getElem_cons_succ, List.getElem_cons_zero, List.setIfInBounds_toArray, List.set_cons_zero, List.set_cons_succ]
      refine AnyBut.takeS (i := 11) (v := undef) rfl (by kernel_rfl) (Nat.le_of_eq (by kernel_rfl)) (by kernel_rfl) (by kernel_rfl) (fun _ _ _ h => h) (HSS3.out) (Or.inr ⟨by kernel_rfl, rfl⟩) ?r12
      try simp only [Act.put, List.getElem_toArray, List.getElem_cons_succ, List.getElem_cons_zero, List.setIfInBounds_toArray, List.set_cons_zero, List.set_cons_succ]
      refine AnyBut.takeS (i := 12) (v := undef) rfl (by kernel_rfl) (Nat.le_of_eq (by kernel_rfl)) (by kernel_rfl) (by kernel_rfl) (fun _ _ _ h => h) (HSS3.out) (Or.inr ⟨by kernel_rfl, rfl⟩) ?r13
      try simp only [Act.put, List.getElem_toArray, List.getElem_cons_succ, List.getElem_cons_zero, List.setIfInBounds_toArray, List.set_cons_zero, List.set_cons_succ]
      refine AnyBut.takeS (i := 13) (v := undef) rfl (by kernel_rfl) (Nat.le_of_eq (by kernel_rfl)) (by kernel_rfl) (by kernel_rfl) (fun _ _ _ h => h) (HSS3.out) (Or.inr ⟨by kernel_rfl, rfl⟩) ?r14
      try simp only [Act.put, List.getElem_toArray, List.getElem_cons_succ, List.getElem_cons_zero, List.setIfInBounds_toArray, List.set_cons_zero, List.set_cons_succ]
      refine AnyBut.takeS (i := 14) (v := ?v15) rfl (by kernel_rfl) (Nat.le_of_eq (by kernel_rfl)) (by kernel_rfl) (by kernel_rfl) (fun _ _ _ h => h) (HSS3.out) (Or.inl ⟨by kernel_rfl, ?hy15⟩) ?r15
      case hy15 =>
        intro w hSw
        try dsimp only at hSw
        go_simp
        try with_reducible rfl
      try simp only [Act.put, List.getElem_toArray, List.getElem_cons_succ, List.getElem_cons_zero, List.setIfInBounds_toArray, List.set_cons_zero, List.set_cons_succ]
      refine AnyBut.done (by kernel_rfl) ?_
      go_wp2_with fail
      refine (HP0.out w2.drew _ HX3.out.bw (by have := HX3.out.mp.kept.size; omega)).mono ?_
      rintro e w5 ⟨rfl, t5⟩
      obtain ⟨v5, b5, o5, k5, HC5⟩ := t5.part2
      have HX5 := Lib.hid (HX3.out.wrote b5 k5)
      have HA5 := Lib.hid ((HHA.out _ HK3.out).wrote HAP.out t5)
      have HQ5 : Hid (HistBox w5 q ⟨sc, ze, po, pl, no, nl⟩ (.slice ao pl.length c) (.slice bo nl.length d)) := Lib.hid (BwTo.newer t5 HQ3.out HQN.out.1 HQN.out.2)
      have HM5 := Lib.hid (HM3.out.wrote HX3.out.bw t5)
      have HT5 := Lib.hid t5
      clear t5 b5 o5 k5
      obtain ⟨x0, x1, x2, x3, x4, x5⟩ := HistBox.c (h := ⟨sc, ze, po, pl, no, nl⟩) HQ5.out
      simp only at x0 x1 x2 x3 x4 x5
      go_wp2_with fail
      refine (shapeOf_any ⟨sc, ze, po, pl, no, nl⟩ _ _ w5 HA5.out).mono ?_
      rintro e w6 ⟨rfl, k6⟩
      have HX6 := Lib.hid (HX5.out.on k6)
      have HQ6 := Lib.hid (HistBox.same HQ5.out k6 (fun x => x))
      have HK6 := Lib.hid k6
      clear k6
      clear x0 x1 x2 x3 x4 x5
      go_wp2_with fail
      refine (HPS.out w6 v5 _ HX6.out.bw (by have := HX6.out.mp.kept.size; omega) (by rw [List.length_append, bitsN_length]; have := HL.out; omega) (HTT.out _ (HX6.out.mp.kept))).mono ?_
      rintro e w7 ⟨rfl, t7⟩
      have HT7 := Lib.hid (HC5.out _ _ (BwTo.ahead HK6.out t7))
      clear t7
      go_wp2
      go_loopg [68] N (fun g s68 wr => ∃ i : Nat, i ≤ N ∧ g = N - i ∧ s68 = .int .i64 i ∧ BwTo (w2.drew) wr W.heap.size p v (bs ++ bitsN 0 1 ++ shapeB ⟨sc, ze, po, pl, no, nl⟩ ++ (C.take i).flatMap smallB))
      case atStart => exact ⟨0, Nat.zero_le _, rfl, rfl, by simpa using HT7.out⟩
      case round =>
        obtain ⟨i, hiN, rfl, rfl, ht⟩ := hrel
        have HT := Lib.hid ht
        have HMr := Lib.hid (HM3.out.wrote HX3.out.bw ht)
        clear ht
        by_cases hd : i < N
        · have hdi : (i : Int) < (N : Int) := by omega
          have HD := Lib.hid hd
          have wi : IntKind.i64.wrap ((i : Int) + 1) = ((i + 1 : Nat) : Int) := by rw [IntWalk.i64_in _ ⟨by omega, by have := HN.out; omega⟩]; omega
          obtain ⟨gb, off, ha3, hc3⟩ := HMr.out.elem (uvals_get (l := C) (j := i) (by have := HCN.out; omega))
          cases ha3
          obtain ⟨x, hx⟩ : ∃ x, x = C.getD i 0 := ⟨_, rfl⟩
          rw [← hx] at hc3
          have HXX := Lib.hid (And.intro hx (show x < 18446744073709551616 by rw [hx]; exact HLT.out i))
          obtain ⟨vr, br, or_, kr, HCr⟩ := HT.out.part2
          have HPU := Lib.hid (varyPut_any W.heap.size p vr _ x wr br HB0.out (by have := HK3.out.size; have := kr.size; have := HX3.out.mp.kept.size; omega) HXX.out.2 (by have h1 := HL.out; have h2 := shapeB_len ⟨sc, ze, po, pl, no, nl⟩; have h3 := smalls_len (C.take i); have h4 := HN.out; rw [List.length_take] at h3; simp only [List.length_append, bitsN_length]; omega) ((HTT.out _ HX3.out.mp.kept).bw HX3.out.bw HB0.out HT.out))
          have HST := Lib.hid (smalls_take C i (by have := HCN.out; omega))
          clear hd hx br or_ kr
          go_wp2_with fail
          refine HPU.out.mono ?_
          rintro e wq ⟨rfl, tq⟩
          have HTq := Lib.hid (HCr.out _ _ tq)
          clear tq hc3
          go_wp2
          go_roundg (N - (i + 1))
          case measure => have := HD.out; omega
          case rel => exact ⟨i + 1, HD.out, rfl, rfl, by rw [HST.out, HXX.out.1.symm, ← List.append_assoc]; exact HTq.out⟩
        · obtain rfl : i = N := by omega
          clear hd
          have HRr := Lib.hid (HX3.out.row.wrote HX3.out.ne.1 HX3.out.ne.2 HT.out)
          have HAr := Lib.hid ((HHA.out _ HK3.out).wrote HAP.out HT.out)
          have HQr : Hid (HistBox wr q ⟨sc, ze, po, pl, no, nl⟩ (.slice ao pl.length c) (.slice bo nl.length d)) := Lib.hid (BwTo.newer HT.out HQ3.out HQN.out.1 HQN.out.2)
          obtain ⟨x0, x1, x2, x3, x4, x5⟩ := HistBox.c (h := ⟨sc, ze, po, pl, no, nl⟩) HQr.out
          simp only at x0 x1 x2 x3 x4 x5
          go_wp2_with fail
          refine (hgoOn_any r n ⟨gsc, gze, gpo, gpl, gno, gnl⟩ ⟨sc, ze, po, pl, no, nl⟩ _ _ _ _ wr HRr.out HAr.out HNN.out HPL.out.1 HPL.out.2).mono ?_
          rintro e w9 ⟨rfl, g9⟩
          have HF := Lib.hid (PutTo.ahead HK3.out (HX3.out.put HT.out g9))
          clear g9 x0 x1 x2 x3 x4 x5
          go_wp2
          go_ret
          refine ⟨by rw [HE.out]; rfl, .inr ⟨HE.out, ?_⟩⟩
          have hf := HF.out
          rw [← HCN.out, List.take_length] at hf
          rw [HNB.out]
          simpa [List.append_assoc] using hf
    · by_cases hal : alikeH h g
      · have z0 : (0 : Int) < (n : Int) := by omega
        have z1 : decide (0 < n) = true := decide_eq_true (by omega)
        have z2 : decide ((0 : Int) < (n : Int)) = true := decide_eq_true (by omega)
        have HNB := Lib.hid (show nextH n g h = bitsN 1 1 ++ difB C D by unfold nextH; rw [if_pos ⟨by omega, hal⟩, hC, hD]; rfl)
        have HDN := Lib.hid (show D.length = N by rw [hD, hCN, hC]; exact hal.cnt)
        have HDE := Lib.hid hD.symm
        have HGC := Lib.hid (show (cntL g).length = N by rw [← hD]; exact HDN.out)
        have HSG1 : Hid (∀ w' p1 n1, HistAt w' g p1 n1 → Calls Tryd.prog 66 #[histV g p1 n1] w' fun e w'' => e = .returned (shapeV h) ∧ Kept (fun _ => False) w' w'') := Lib.hid fun w' p1 n1 k => (HSG.out w' p1 n1 k).mono fun e w'' hh => ⟨by rw [hh.1, (shapeV_iff g h).mpr hal], hh.2⟩
        clear HSG hal
        have HSG := HSG1
        clear HSG1
        have HWL := Lib.hid hsz
        obtain ⟨sc, ze, po, pl, no, nl⟩ := h
        obtain ⟨gsc, gze, gpo, gpl, gno, gnl⟩ := g
        unfold histV at HCK HCO HSH HSG ⊢
        simp only at hp hnl HCK HCO HHA HAP HPL HGL HNB HPS HGC HDE HSH HSG ⊢
        unfold shapeV at HSH HSG
        simp only at HSH HSG
        obtain ⟨w0, hw0⟩ : ∃ w0, w0 = w.alloc (.cells #[.int .i64 sc, .int .u64 (ze : Int), .int .i64 po, .slice ao pl.length c, .int .i64 no, .slice bo nl.length d] 62) := ⟨_, rfl⟩
        have HQ0 := Lib.hid (show HistBox w0 w.heap.size ⟨sc, ze, po, pl, no, nl⟩ (.slice ao pl.length c) (.slice bo nl.length d) by rw [hw0]; exact heap_alloc_new w _)
        have HK0 := Lib.hid (show Kept (fun _ => False) w w0 by rw [hw0]; exact (Kept.refl _ _).alloc _)
        have HX0 := Lib.hid (X.on HK0.out)
        have HW0 := Lib.hid hw0
        obtain ⟨q, hq⟩ : ∃ q, q = w.heap.size := ⟨_, rfl⟩
        have HQ := Lib.hid hq
        have HQN := Lib.hid (show q ≠ p ∧ v.ownBlock ≠ some q from ⟨by have := X.bw.lt; omega, fun e => by have := (ownsRow_lt X.bw.owns e).1; omega⟩)
        rw [← hq] at HQ0
        clear hw0 hq
        clear hap hok hB0 hn hl hp hnl hgp hgn HT hsz hN hCN hC hD X ha he hn0
        go_enter Tryd.func39, Tryd.ntmps39
        go_upto_region 1 with fail
        rw [← HW0.out, ← HQ.out]
        obtain ⟨x0, x1, x2, x3, x4, x5⟩ := HistBox.c (h := ⟨sc, ze, po, pl, no, nl⟩) HQ0.out
        simp only at x0 x1 x2 x3 x4 x5
        go_wp2_with fail
        refine (HCK.out w0 HK0.out).mono ?_
        rintro e w1 ⟨rfl, k1⟩
        have HX1 := Lib.hid (HX0.out.on k1)
        have HQ1 := Lib.hid (HQ0.out.same k1 (fun x => x))
        have HK1 := Lib.hid (HK0.out.trans k1)
        clear k1
        clear x0 x1 x2 x3 x4 x5
        obtain ⟨x0, x1, x2, x3, x4, x5⟩ := HistBox.c (h := ⟨sc, ze, po, pl, no, nl⟩) HQ1.out
        simp only at x0 x1 x2 x3 x4 x5
        go_wp2_with fail
        refine (HCO.out w1 HK1.out).mono ?_
        rintro e w2 ⟨a3, c3, rfl, m2⟩
        skip
        have HX2 := Lib.hid (HX1.out.on m2.kept)
        have HQ2 := Lib.hid (HQ1.out.same m2.kept (fun x => x))
        have HK2 := Lib.hid (HK1.out.trans m2.kept)
        have HM2 := Lib.hid m2
        clear m2
        clear x0 x1 x2 x3 x4 x5
        have hd2 := (Kept.refl (fun _ => False) w2).drew
        have HX3 := Lib.hid (HX2.out.on hd2)
        have HQ3 := Lib.hid (HQ2.out.same hd2 (fun x => x))
        have HK3 := Lib.hid (HK2.out.trans hd2)
        have HM3 := Lib.hid (HM2.out.on hd2)
        clear hd2
        have HSS3 : Hid ((fun w' => w'.cell? ⟨q, 0, none⟩ = some (.int .i64 sc) ∧ w'.cell? ⟨q, 1, none⟩ = some (.int .u64 (ze : Int)) ∧ w'.cell? ⟨q, 2, none⟩ = some (.int .i64 po) ∧ w'.cell? ⟨q, 3, none⟩ = some (.slice ao pl.length c) ∧ w'.cell? ⟨q, 4, none⟩ = some (.int .i64 no) ∧ w'.cell? ⟨q, 5, none⟩ = some (.slice bo nl.length d) ∧ w'.cell? ⟨r, 0, none⟩ = some (.int .i64 (n : Int)) ∧ w'.cell? ⟨r, 1, none⟩ = some (.int .i64 gsc) ∧ w'.cell? ⟨r, 2, none⟩ = some (.int .u64 (gze : Int)) ∧ w'.cell? ⟨r, 3, none⟩ = some (.int .i64 gpo) ∧ w'.cell? ⟨r, 4, none⟩ = some (.slice a1 gpl.length c1) ∧ w'.cell? ⟨r, 5, none⟩ = some (.int .i64 gno) ∧ w'.cell? ⟨r, 6, none⟩ = some (.slice a2 gnl.length c2)) w2.drew) := by
          obtain ⟨x0, x1, x2, x3, x4, x5⟩ := HistBox.c (h := ⟨sc, ze, po, pl, no, nl⟩) HQ3.out
          obtain ⟨y0, y1, y2, y3, y4, y5, y6⟩ := HRow.c (h := ⟨gsc, gze, gpo, gpl, gno, gnl⟩) HX3.out.row
          exact Lib.hid ⟨x0, x1, x2, x3, x4, x5, y0, y1, y2, y3, y4, y5, y6⟩
        go_upto_region 5 with fail
        refine AnyBut.start (S := fun w' => w'.cell? ⟨q, 0, none⟩ = some (.int .i64 sc) ∧ w'.cell? ⟨q, 1, none⟩ = some (.int .u64 (ze : Int)) ∧ w'.cell? ⟨q, 2, none⟩ = some (.int .i64 po) ∧ w'.cell? ⟨q, 3, none⟩ = some (.slice ao pl.length c) ∧ w'.cell? ⟨q, 4, none⟩ = some (.int .i64 no) ∧ w'.cell? ⟨q, 5, none⟩ = some (.slice bo nl.length d) ∧ w'.cell? ⟨r, 0, none⟩ = some (.int .i64 (n : Int)) ∧ w'.cell? ⟨r, 1, none⟩ = some (.int .i64 gsc) ∧ w'.cell? ⟨r, 2, none⟩ = some (.int .u64 (gze : Int)) ∧ w'.cell? ⟨r, 3, none⟩ = some (.int .i64 gpo) ∧ w'.cell? ⟨r, 4, none⟩ = some (.slice a1 gpl.length c1) ∧ w'.cell? ⟨r, 5, none⟩ = some (.int .i64 gno) ∧ w'.cell? ⟨r, 6, none⟩ = some (.slice a2 gnl.length c2)) (k := 15) (by kernel_rfl) ?_
        refine AnyBut.takeS (i := 0) (v := ?v16) rfl (by kernel_rfl) (Nat.le_of_eq (by kernel_rfl)) (by kernel_rfl) (by kernel_rfl) (fun _ _ _ h => h) (HSS3.out) (Or.inl ⟨by kernel_rfl, ?hy16⟩) ?r16
        case hy16 =>
          intro w hSw
          try dsimp only at hSw
          go_simp
          try with_reducible rfl
        try simp only [Act.put, List.getElem_toArray, List.getElem_cons_zero, List.setIfInBounds_toArray, List.set_cons_zero, List.set_cons_succ]
        refine AnyBut.takeS (i := 1) (v := ?v17) rfl (by kernel_rfl) (Nat.le_of_eq (by kernel_rfl)) (by kernel_rfl) (by kernel_rfl) (fun _ _ _ h => h) (HSS3.out) (Or.inl ⟨by kernel_rfl, ?hy17⟩) ?r17
        case hy17 =>
          intro w hSw
          try dsimp only at hSw
          go_simp
          try with_reducible rfl
        try simp only [Act.put, List.getElem_toArray, List.getElem_cons_succ, List.getElem_cons_zero, List.setIfInBounds_toArray, List.set_cons_zero, List.set_cons_succ]
        refine AnyBut.takeS (i := 2) (v := ?v18) rfl (by kernel_rfl) (Nat.le_of_eq (by kernel_rfl)) (by kernel_rfl) (by kernel_rfl) (fun _ _ _ h => h) (HSS3.out) (Or.inl ⟨by kernel_rfl, ?hy18⟩) ?r18
        case hy18 =>
          intro w hSw
          try dsimp only at hSw
          go_simp
          try with_reducible rfl
        try simp only [Act.put, List.getElem_toArray, List.getElem_cons_succ, List.getElem_cons_zero, List.setIfInBounds_toArray, List.set_cons_zero, List.set_cons_succ]
        refine AnyBut.takeS (i := 3) (v := ?v19) rfl (by kernel_rfl) (Nat.le_of_eq (by kernel_rfl)) (by kernel_rfl) (by kernel_rfl) (fun _ _ _ h => h) (HSS3.out) (Or.inl ⟨by kernel_rfl, ?hy19⟩) ?r19
        case hy19 =>
          intro w hSw
          try dsimp only at hSw
          go_simp
          try with_reducible rfl
        try simp only [Act.put, List.getElem_toArray, List.getElem_cons_succ, List.getElem_cons_zero, List.setIfInBounds_toArray, List.set_cons_zero, List.set_cons_succ]
        refine AnyBut.takeS (i := 4) (v := ?v20) rfl (by kernel_rfl) (Nat.le_of_eq (by kernel_rfl)) (by kernel_rfl) (by kernel_rfl) (fun _ _ _ h => h) (HSS3.out) (Or.inl ⟨by kernel_rfl, ?hy20⟩) ?r20
        case hy20 =>
          intro w hSw
          try dsimp only at hSw
          go_simp
          try with_reducible rfl
        try simp only [Act.put, List.getElem_toArray, List.getElem_cons_succ, List.getElem_cons_zero, List.setIfInBounds_toArray, List.set_cons_zero, List.set_cons_succ]
        refine AnyBut.takeS (i := 5) (v := ?v21) rfl (by kernel_rfl) (Nat.le_of_eq (by kernel_rfl)) (by kernel_rfl) (by kernel_rfl) (fun _ _ _ h => h) (HSS3.out) (Or.inl ⟨by kernel_rfl, ?hy21⟩) ?r21
        case hy21 =>
          intro w hSw
          try dsimp only at hSw
          go_simp
          try with_reducible rfl
        try simp only [Act.put, List.getElem_toArray, List.getElem_cons_succ, List.getElem_cons_zero, List.setIfInBounds_toArray, List.set_cons_zero, List.set_cons_succ]
        refine AnyBut.takeS (i := 6) (v := ?v22) rfl (by kernel_rfl) (Nat.le_of_eq (by kernel_rfl)) (by kernel_rfl) (by kernel_rfl) (fun _ _ _ h => h) (HSS3.out) (Or.inl ⟨by kernel_rfl, ?hy22⟩) ?r22
        case hy22 =>
          intro w hSw
          try dsimp only at hSw
          go_simp
          try with_reducible rfl
        try simp only [Act.put, List.getElem_toArray, List.getElem_cons_succ, List.getElem_cons_zero, List.setIfInBounds_toArray, List.set_cons_zero, List.set_cons_succ]
        refine AnyBut.takeS (i := 8) (v := ?v23) rfl (by kernel_rfl) (Nat.le_of_eq (by kernel_rfl)) (by kernel_rfl) (by kernel_rfl) (fun _ _ _ h => h) (HSS3.out) (Or.inl ⟨by kernel_rfl, ?hy23⟩) ?r23
        case hy23 =>
          intro w hSw
          try dsimp only at hSw
          go_simp
          try with_reducible rfl
        try simp only [Act.put, List.getElem_toArray, List.getElem_cons_succ, List.getElem_cons_zero, List.setIfInBounds_toArray, List.set_cons_zero, List.set_cons_succ]
        refine AnyBut.takeS (i := 9) (v := ?v24) rfl (by kernel_rfl) (Nat.le_of_eq (by kernel_rfl)) (by kernel_rfl) (by kernel_rfl) (fun _ _ _ h => h) (HSS3.out) (Or.inl ⟨by kernel_rfl, ?hy24⟩) ?r24
        case hy24 =>
          intro w hSw
          try dsimp only at hSw
          go_simp
          try with_reducible rfl
        try simp only [Act.put, List.getElem_toArray, List.getElem_cons_succ, List.getElem_cons_zero, List.setIfInBounds_toArray, List.set_cons_zero, List.set_cons_succ]
        refine AnyBut.takeS (i := 10) (v := ?v25) rfl (by kernel_rfl) (Nat.le_of_eq (by kernel_rfl)) (by kernel_rfl) (by kernel_rfl) (fun _ _ _ h => h) (HSS3.out) (Or.inl ⟨by kernel_rfl, ?hy25⟩) ?r25
        case hy25 =>
          intro w hSw
          try dsimp only at hSw
          go_simp
          try with_reducible rfl
        try simp only [Act.put, List.getElem_toArray, List.getElem_cons_succ, List.getElem_cons_zero, List.setIfInBounds_toArray, List.set_cons_zero, List.set_cons_succ]
        refine AnyBut.takeS (i := 11) (v := ?v26) rfl (by kernel_rfl) (Nat.le_of_eq (by kernel_rfl)) (by kernel_rfl) (by kernel_rfl) (fun _ _ _ h => h) (HSS3.out) (Or.inl ⟨by kernel_rfl, ?hy26⟩) ?r26
        case hy26 =>
          intro w hSw
          try dsimp only at hSw
          go_simp
          try with_reducible rfl
        try simp only [Act.put, List.getElem_toArray, List.getElem_cons_succ, List.getElem_cons_zero, List.setIfInBounds_toArray, List.set_cons_zero, List.set_cons_succ]
        refine AnyBut.one (i := 7) (by kernel_rfl) rfl (fun K hK => ?_)
        go_simp
        go_wp2_with fail
        refine (HSH.out _ HK3.out).mono ?_
        rintro e w33 ⟨rfl, k33⟩
        have HX33 := Lib.hid (HX3.out.on k33)
        have HQ33 := Lib.hid (HQ3.out.same k33 (fun x => x))
        have HK33 := Lib.hid (HK3.out.trans k33)
        have HM33 := Lib.hid (HM3.out.on k33)
        clear k33
        have HSS33 : Hid ((fun w' => w'.cell? ⟨q, 0, none⟩ = some (.int .i64 sc) ∧ w'.cell? ⟨q, 1, none⟩ = some (.int .u64 (ze : Int)) ∧ w'.cell? ⟨q, 2, none⟩ = some (.int .i64 po) ∧ w'.cell? ⟨q, 3, none⟩ = some (.slice ao pl.length c) ∧ w'.cell? ⟨q, 4, none⟩ = some (.int .i64 no) ∧ w'.cell? ⟨q, 5, none⟩ = some (.slice bo nl.length d) ∧ w'.cell? ⟨r, 0, none⟩ = some (.int .i64 (n : Int)) ∧ w'.cell? ⟨r, 1, none⟩ = some (.int .i64 gsc) ∧ w'.cell? ⟨r, 2, none⟩ = some (.int .u64 (gze : Int)) ∧ w'.cell? ⟨r, 3, none⟩ = some (.int .i64 gpo) ∧ w'.cell? ⟨r, 4, none⟩ = some (.slice a1 gpl.length c1) ∧ w'.cell? ⟨r, 5, none⟩ = some (.int .i64 gno) ∧ w'.cell? ⟨r, 6, none⟩ = some (.slice a2 gnl.length c2)) w33) := by
          obtain ⟨x0, x1, x2, x3, x4, x5⟩ := HistBox.c (h := ⟨sc, ze, po, pl, no, nl⟩) HQ33.out
          obtain ⟨y0, y1, y2, y3, y4, y5, y6⟩ := HRow.c (h := ⟨gsc, gze, gpo, gpl, gno, gnl⟩) HX33.out.row
          exact Lib.hid ⟨x0, x1, x2, x3, x4, x5, y0, y1, y2, y3, y4, y5, y6⟩
        go_wp2
        refine hK.out _ _ (HSS33.out) ?_
        clear hK K
        try simp only [Act.put, List.getElem_toArray, List.getElem_cons_succ, List.getElem_cons_zero, List.setIfInBounds_toArray, List.set_cons_zero, List.set_cons_succ]
        refine AnyBut.one (i := 12) (by kernel_rfl) rfl (fun K hK => ?_)
        go_simp
        go_wp2_with fail
        refine (HSG.out _ _ _ ⟨HX33.out.mp.at_, HX33.out.mn.at_⟩).mono ?_
        rintro e w34 ⟨rfl, k34⟩
        have HX34 := Lib.hid (HX33.out.on k34)
        have HQ34 := Lib.hid (HQ33.out.same k34 (fun x => x))
        have HK34 := Lib.hid (HK33.out.trans k34)
        have HM34 := Lib.hid (HM33.out.on k34)
        clear k34
        have HSS34 : Hid ((fun w' => w'.cell? ⟨q, 0, none⟩ = some (.int .i64 sc) ∧ w'.cell? ⟨q, 1, none⟩ = some (.int .u64 (ze : Int)) ∧ w'.cell? ⟨q, 2, none⟩ = some (.int .i64 po) ∧ w'.cell? ⟨q, 3, none⟩ = some (.slice ao pl.length c) ∧ w'.cell? ⟨q, 4, none⟩ = some (.int .i64 no) ∧ w'.cell? ⟨q, 5, none⟩ = some (.slice bo nl.length d) ∧ w'.cell? ⟨r, 0, none⟩ = some (.int .i64 (n : Int)) ∧ w'.cell? ⟨r, 1, none⟩ = some (.int .i64 gsc) ∧ w'.cell? ⟨r, 2, none⟩ = some (.int .u64 (gze : Int)) ∧ w'.cell? ⟨r, 3, none⟩ = some (.int .i64 gpo) ∧ w'.cell? ⟨r, 4, none⟩ = some (.slice a1 gpl.length c1) ∧ w'.cell? ⟨r, 5, none⟩ = some (.int .i64 gno) ∧ w'.cell? ⟨r, 6, none⟩ = some (.slice a2 gnl.length c2)) w34) := by
          obtain ⟨x0, x1, x2, x3, x4, x5⟩ := HistBox.c (h := ⟨sc, ze, po, pl, no, nl⟩) HQ34.out
          obtain ⟨y0, y1, y2, y3, y4, y5, y6⟩ := HRow.c (h := ⟨gsc, gze, gpo, gpl, gno, gnl⟩) HX34.out.row
          exact Lib.hid ⟨x0, x1, x2, x3, x4, x5, y0, y1, y2, y3, y4, y5, y6⟩
        go_wp2
        refine hK.out _ _ (HSS34.out) ?_
        clear hK K
        try simp only [Act.put, List.getElem_toArray, List.getElem_cons_succ, List.getElem_cons_zero, List.setIfInBounds_toArray, List.set_cons_zero, List.set_cons_succ]
        refine AnyBut.takeS (i := 13) (v := ?v27) rfl (by kernel_rfl) (Nat.le_of_eq (by kernel_rfl)) (by kernel_rfl) (by kernel_rfl) (fun _ _ _ h => h) (HSS34.out) (Or.inl ⟨by kernel_rfl, ?hy27⟩) ?r27
        case hy27 =>
          intro w hSw
          try dsimp only at hSw
          go_simp
          try with_reducible rfl
        try simp only [Act.put, List.getElem_toArray, List.getElem_cons_succ, List.getElem_cons_zero, List.setIfInBounds_toArray, List.set_cons_zero, List.set_cons_succ]
        refine AnyBut.takeS (i := 14) (v := ?v28) rfl (by kernel_rfl) (Nat.le_of_eq (by kernel_rfl)) (by kernel_rfl) (by kernel_rfl) (fun _ _ _ h => h) (HSS34.out) (Or.inl ⟨by kernel_rfl, ?hy28⟩) ?r28
        case hy28 =>
          intro w hSw
          try dsimp only at hSw
          go_simp
          try with_reducible rfl
        try simp only [Act.put, List.getElem_toArray, List.getElem_cons_succ, List.getElem_cons_zero, List.setIfInBounds_toArray, List.set_cons_zero, List.set_cons_succ]
        refine AnyBut.done (by kernel_rfl) ?_
        go_wp2_with fail
        refine (HP1.out w34 _ HX34.out.bw (by have := HX34.out.mp.kept.size; omega)).mono ?_
        rintro e w5 ⟨rfl, t5⟩
        obtain ⟨v5, b5, o5, k5, HC5⟩ := t5.part2
        have HX5 := Lib.hid (HX34.out.wrote b5 k5)
        have HT5 := Lib.hid t5
        clear t5 b5 o5 k5
        obtain ⟨y0, y1, y2, y3, y4, y5, y6⟩ := HRow.c (h := ⟨gsc, gze, gpo, gpl, gno, gnl⟩) HX5.out.row
        simp only at y0 y1 y2 y3 y4 y5 y6
        go_wp2_with fail
        refine (countsOf_any ⟨gsc, gze, gpo, gpl, gno, gnl⟩ _ _ w5 ⟨HX5.out.mp.at_, HX5.out.mn.at_⟩ HGL.out.1 HGL.out.2).mono ?_
        rintro e w6 ⟨a4, c4, rfl, m6⟩
        rw [HGC.out] at m6 ⊢
        rw [HDE.out] at m6
        have HM6 := Lib.hid m6
        have HX6 := Lib.hid (HX5.out.on m6.kept)
        have HT6 := Lib.hid (HC5.out _ _ (HX5.out.bw.beside m6.kept))
        clear m6
        clear y0 y1 y2 y3 y4 y5 y6
        have HQ6 := Lib.hid (HistBox.same (BwTo.newer HT5.out HQ34.out HQN.out.1 HQN.out.2) HM6.out.kept (fun x => x))
        go_wp2
        go_loopg [10, 11, 45] N (fun g s10 s11 s45 wr => ∃ i : Nat, i ≤ N ∧ g = N - i ∧ s45 = .int .i64 i ∧ BwTo w6 wr W.heap.size p v5 (bs ++ bitsN 1 1 ++ difB (C.take i) D))
        case atStart => exact ⟨0, Nat.zero_le _, rfl, rfl, by simpa [difB] using HX6.out.bw.to⟩
        case round =>
          obtain ⟨i, hiN, rfl, rfl, ht⟩ := hrel
          have HT := Lib.hid ht
          have HTw := Lib.hid (HC5.out _ _ (BwTo.ahead HM6.out.kept ht))
          have HMr := Lib.hid (HM34.out.wrote HX34.out.bw HTw.out)
          have HMl := Lib.hid (HM6.out.wrote HX6.out.bw ht)
          clear ht
          by_cases hd : i < N
          · have hdi : (i : Int) < (N : Int) := by omega
            have HD := Lib.hid hd
            have wi : IntKind.i64.wrap ((i : Int) + 1) = ((i + 1 : Nat) : Int) := by rw [IntWalk.i64_in _ ⟨by omega, by have := HN.out; omega⟩]; omega
            obtain ⟨gb, off, ha3, hc3⟩ := HMr.out.elem (uvals_get (l := C) (j := i) (by have := HCN.out; omega))
            cases ha3
            obtain ⟨lb, of2, ha4, hc4⟩ := HMl.out.elem (uvals_get (l := D) (j := i) (by have := HDN.out; omega))
            cases ha4
            obtain ⟨x, hx⟩ : ∃ x, x = C.getD i 0 := ⟨_, rfl⟩
            obtain ⟨y, hy⟩ : ∃ y, y = D.getD i 0 := ⟨_, rfl⟩
            rw [← hx] at hc3
            rw [← hy] at hc4
            have HST := Lib.hid (difB_take C D i (by have := HCN.out; omega))
            rw [← hx, ← hy] at HST
            have hdr := difI_range x y
            have hdw := difI_wrap x y
            obtain ⟨DI, hDI⟩ : ∃ z, z = difI x y := ⟨_, rfl⟩
            rw [← hDI] at HST hdr hdw
            have hz := zgN_eq DI hdr.1 hdr.2
            obtain ⟨U, hU⟩ : ∃ z, z = IntKind.u64.wrap ((x : Int) - (y : Int)) := ⟨_, rfl⟩
            rw [← hU] at hdw
            replace hU := hU.symm
            obtain ⟨vr, br, or_, kr, HCr⟩ := HT.out.part2
            have HPU := Lib.hid (varyPutInt_any W.heap.size p vr _ DI (zgN DI) wr br HB0.out (by have := HX6.out.mp.kept.size; have := kr.size; omega) hdr.1 hdr.2 hz.1 hz.2 (by have h1 := HL.out; have h3 := difB_len (C.take i) D; have h4 := HN.out; rw [List.length_take] at h3; simp only [List.length_append, bitsN_length]; omega) ((HTT.out _ HX34.out.mp.kept).bw HX34.out.bw HB0.out HTw.out))
            clear hd hx hy br or_ kr hz hdr hDI
            go_wp2_with fail
            refine HPU.out.mono ?_
            rintro e wq ⟨rfl, tq⟩
            have HTq := Lib.hid (HCr.out _ _ tq)
            clear tq hc3 hc4 hU hdw
            go_wp2
            go_roundg (N - (i + 1))
            case measure => have := HD.out; omega
            case rel => exact ⟨i + 1, HD.out, rfl, rfl, by rw [HST.out, ← List.append_assoc]; exact HTq.out⟩
          · obtain rfl : i = N := by omega
            clear hd
            have HRr := Lib.hid (HX34.out.row.wrote HX34.out.ne.1 HX34.out.ne.2 HTw.out)
            have HAr := Lib.hid ((HHA.out _ HK34.out).wrote HAP.out HTw.out)
            have HQr : Hid (HistBox wr q ⟨sc, ze, po, pl, no, nl⟩ (.slice ao pl.length c) (.slice bo nl.length d)) := Lib.hid (BwTo.newer HTw.out HQ34.out HQN.out.1 HQN.out.2)
            obtain ⟨x0, x1, x2, x3, x4, x5⟩ := HistBox.c (h := ⟨sc, ze, po, pl, no, nl⟩) HQr.out
            simp only at x0 x1 x2 x3 x4 x5
            go_wp2_with fail
            refine (hgoOn_any r n ⟨gsc, gze, gpo, gpl, gno, gnl⟩ ⟨sc, ze, po, pl, no, nl⟩ _ _ _ _ wr HRr.out HAr.out HNN.out HPL.out.1 HPL.out.2).mono ?_
            rintro e w9 ⟨rfl, g9⟩
            have HF := Lib.hid (PutTo.ahead HK34.out (HX34.out.put HTw.out g9))
            clear g9 x0 x1 x2 x3 x4 x5
            go_wp2
            go_ret
            refine ⟨by rw [HE.out]; rfl, .inr ⟨HE.out, ?_⟩⟩
            have hf := HF.out
            rw [← HCN.out, List.take_length] at hf
            rw [HNB.out]
            simpa [List.append_assoc] using hf
      · have z0 : (0 : Int) < (n : Int) := by omega
        have z1 : decide (0 < n) = true := decide_eq_true (by omega)
        have z2 : decide ((0 : Int) < (n : Int)) = true := decide_eq_true (by omega)
        have HNB := Lib.hid (show nextH n g h = bitsN 0 1 ++ (shapeB h ++ C.flatMap smallB) by unfold nextH; rw [if_neg (fun e => hal e.2), hC]; rfl)
        have HEQ := Lib.hid (show ¬ (h.sc = g.sc ∧ h.po = g.po ∧ (h.pl.length : Int) = (g.pl.length : Int) ∧ h.no = g.no ∧ (h.nl.length : Int) = (g.nl.length : Int)) by rintro ⟨e1, e2, e3, e4, e5⟩; exact hal ⟨e1, e2, by omega, e4, by omega⟩)
        clear hal
        have HWL := Lib.hid hsz
        obtain ⟨sc, ze, po, pl, no, nl⟩ := h
        obtain ⟨gsc, gze, gpo, gpl, gno, gnl⟩ := g
        unfold histV at HCK HCO HSH HSG ⊢
        simp only at hp hnl HCK HCO HHA HAP HPL HGL HNB HPS HEQ HSH HSG ⊢
        unfold shapeV at HSH HSG
        simp only at HSH HSG
        obtain ⟨w0, hw0⟩ : ∃ w0, w0 = w.alloc (.cells #[.int .i64 sc, .int .u64 (ze : Int), .int .i64 po, .slice ao pl.length c, .int .i64 no, .slice bo nl.length d] 62) := ⟨_, rfl⟩
        have HQ0 := Lib.hid (show HistBox w0 w.heap.size ⟨sc, ze, po, pl, no, nl⟩ (.slice ao pl.length c) (.slice bo nl.length d) by rw [hw0]; exact heap_alloc_new w _)
        have HK0 := Lib.hid (show Kept (fun _ => False) w w0 by rw [hw0]; exact (Kept.refl _ _).alloc _)
        have HX0 := Lib.hid (X.on HK0.out)
        have HW0 := Lib.hid hw0
        obtain ⟨q, hq⟩ : ∃ q, q = w.heap.size := ⟨_, rfl⟩
        have HQ := Lib.hid hq
        have HQN := Lib.hid (show q ≠ p ∧ v.ownBlock ≠ some q from ⟨by have := X.bw.lt; omega, fun e => by have := (ownsRow_lt X.bw.owns e).1; omega⟩)
        rw [← hq] at HQ0
        clear hw0 hq
        clear hap hok hB0 hn hl hp hnl hgp hgn HT hsz hN hCN hC hD X ha he hn0
        go_enter Tryd.func39, Tryd.ntmps39
        go_upto_region 1 with fail
        rw [← HW0.out, ← HQ.out]
        obtain ⟨x0, x1, x2, x3, x4, x5⟩ := HistBox.c (h := ⟨sc, ze, po, pl, no, nl⟩) HQ0.out
        simp only at x0 x1 x2 x3 x4 x5
        go_wp2_with fail
        refine (HCK.out w0 HK0.out).mono ?_
        rintro e w1 ⟨rfl, k1⟩
        have HX1 := Lib.hid (HX0.out.on k1)
        have HQ1 := Lib.hid (HQ0.out.same k1 (fun x => x))
        have HK1 := Lib.hid (HK0.out.trans k1)
        clear k1
        clear x0 x1 x2 x3 x4 x5
        obtain ⟨x0, x1, x2, x3, x4, x5⟩ := HistBox.c (h := ⟨sc, ze, po, pl, no, nl⟩) HQ1.out
        simp only at x0 x1 x2 x3 x4 x5
        go_wp2_with fail
        refine (HCO.out w1 HK1.out).mono ?_
        rintro e w2 ⟨a3, c3, rfl, m2⟩
        skip
        have HX2 := Lib.hid (HX1.out.on m2.kept)
        have HQ2 := Lib.hid (HQ1.out.same m2.kept (fun x => x))
        have HK2 := Lib.hid (HK1.out.trans m2.kept)
        have HM2 := Lib.hid m2
        clear m2
        clear x0 x1 x2 x3 x4 x5
        have hd2 := (Kept.refl (fun _ => False) w2).drew
        have HX3 := Lib.hid (HX2.out.on hd2)
        have HQ3 := Lib.hid (HQ2.out.same hd2 (fun x => x))
        have HK3 := Lib.hid (HK2.out.trans hd2)
        have HM3 := Lib.hid (HM2.out.on hd2)
        clear hd2
        have HSS3 : Hid ((fun w' => w'.cell? ⟨q, 0, none⟩ = some (.int .i64 sc) ∧ w'.cell? ⟨q, 1, none⟩ = some (.int .u64 (ze : Int)) ∧ w'.cell? ⟨q, 2, none⟩ = some (.int .i64 po) ∧ w'.cell? ⟨q, 3, none⟩ = some (.slice ao pl.length c) ∧ w'.cell? ⟨q, 4, none⟩ = some (.int .i64 no) ∧ w'.cell? ⟨q, 5, none⟩ = some (.slice bo nl.length d) ∧ w'.cell? ⟨r, 0, none⟩ = some (.int .i64 (n : Int)) ∧ w'.cell? ⟨r, 1, none⟩ = some (.int .i64 gsc) ∧ w'.cell? ⟨r, 2, none⟩ = some (.int .u64 (gze : Int)) ∧ w'.cell? ⟨r, 3, none⟩ = some (.int .i64 gpo) ∧ w'.cell? ⟨r, 4, none⟩ = some (.slice a1 gpl.length c1) ∧ w'.cell? ⟨r, 5, none⟩ = some (.int .i64 gno) ∧ w'.cell? ⟨r, 6, none⟩ = some (.slice a2 gnl.length c2)) w2.drew) := by
          obtain ⟨x0, x1, x2, x3, x4, x5⟩ := HistBox.c (h := ⟨sc, ze, po, pl, no, nl⟩) HQ3.out
          obtain ⟨y0, y1, y2, y3, y4, y5, y6⟩ := HRow.c (h := ⟨gsc, gze, gpo, gpl, gno, gnl⟩) HX3.out.row
          exact Lib.hid ⟨x0, x1, x2, x3, x4, x5, y0, y1, y2, y3, y4, y5, y6⟩
        go_upto_region 5 with fail
        refine AnyBut.start (S := fun w' => w'.cell? ⟨q, 0, none⟩ = some (.int .i64 sc) ∧ w'.cell? ⟨q, 1, none⟩ = some (.int .u64 (ze : Int)) ∧ w'.cell? ⟨q, 2, none⟩ = some (.int .i64 po) ∧ w'.cell? ⟨q, 3, none⟩ = some (.slice ao pl.length c) ∧ w'.cell? ⟨q, 4, none⟩ = some (.int .i64 no) ∧ w'.cell? ⟨q, 5, none⟩ = some (.slice bo nl.length d) ∧ w'.cell? ⟨r, 0, none⟩ = some (.int .i64 (n : Int)) ∧ w'.cell? ⟨r, 1, none⟩ = some (.int .i64 gsc) ∧ w'.cell? ⟨r, 2, none⟩ = some (.int .u64 (gze : Int)) ∧ w'.cell? ⟨r, 3, none⟩ = some (.int .i64 gpo) ∧ w'.cell? ⟨r, 4, none⟩ = some (.slice a1 gpl.length c1) ∧ w'.cell? ⟨r, 5, none⟩ = some (.int .i64 gno) ∧ w'.cell? ⟨r, 6, none⟩ = some (.slice a2 gnl.length c2)) (k := 15) (by kernel_rfl) ?_
        refine AnyBut.takeS (i := 0) (v := ?v29) rfl (by kernel_rfl) (Nat.le_of_eq (by kernel_rfl)) (by kernel_rfl) (by kernel_rfl) (fun _ _ _ h => h) (HSS3.out) (Or.inl ⟨by kernel_rfl, ?hy29⟩) ?r29
        case hy29 =>
          intro w hSw
          try dsimp only at hSw
          go_simp
          try exact ifs5 HEQ.out
          try with_reducible rfl
        try simp only [Act.put, List.getElem_toArray, List.getElem_cons_zero, List.setIfInBounds_toArray, List.set_cons_zero, List.set_cons_succ]
        refine AnyBut.takeS (i := 1) (v := ?v30) rfl (by kernel_rfl) (Nat.le_of_eq (by kernel_rfl)) (by kernel_rfl) (by kernel_rfl) (fun _ _ _ h => h) (HSS3.out) (Or.inl ⟨by kernel_rfl, ?hy30⟩) ?r30
        case hy30 =>
          intro w hSw
          try dsimp only at hSw
          go_simp
          try exact ifs5 HEQ.out
          try with_reducible rfl
        try simp only [Act.put, List.getElem_toArray, List.getElem_cons_succ, List.getElem_cons_zero, List.setIfInBounds_toArray, List.set_cons_zero, List.set_cons_succ]
        refine AnyBut.takeS (i := 2) (v := ?v31) rfl (by kernel_rfl) (Nat.le_of_eq (by kernel_rfl)) (by kernel_rfl) (by kernel_rfl) (fun _ _ _ h => h) (HSS3.out) (Or.inl ⟨by kernel_rfl, ?hy31⟩) ?r31
        case hy31 =>
          intro w hSw
          try dsimp only at hSw
          go_simp
          try exact ifs5 HEQ.out
          try with_reducible rfl
        try simp only [Act.put, List.getElem_toArray, List.getElem_cons_succ, List.getElem_cons_zero, List.setIfInBounds_toArray, List.set_cons_zero, List.set_cons_succ]
        refine AnyBut.takeS (i := 3) (v := ?v32) rfl (by kernel_rfl) (Nat.le_of_eq (by kernel_rfl)) (by kernel_rfl) (by kernel_rfl) (fun _ _ _ h => h) (HSS3.out) (Or.inl ⟨by kernel_rfl, ?hy32⟩) ?r32
        case hy32 =>
          intro w hSw
          try dsimp only at hSw
          go_simp
          try exact ifs5 HEQ.out
          try with_reducible rfl
        try simp only [Act.put, List.getElem_toArray, List.getElem_cons_succ, List.getElem_cons_zero, List.setIfInBounds_toArray, List.set_cons_zero, List.set_cons_succ]
        refine AnyBut.takeS (i := 4) (v := ?v33) rfl (by kernel_rfl) (Nat.le_of_eq (by kernel_rfl)) (by kernel_rfl) (by kernel_rfl) (fun _ _ _ h => h) (HSS3.out) (Or.inl ⟨by kernel_rfl, ?hy33⟩) ?r33
        case hy33 =>
          intro w hSw
          try dsimp only at hSw
          go_simp
          try exact ifs5 HEQ.out
          try with_reducible rfl
        try simp only [Act.put, List.getElem_toArray, List.getElem_cons_succ, List.getElem_cons_zero, List.setIfInBounds_toArray, List.set_cons_zero, List.set_cons_succ]
        refine AnyBut.takeS (i := 5) (v := ?v34) rfl (by kernel_rfl) (Nat.le_of_eq (by kernel_rfl)) (by kernel_rfl) (by kernel_rfl) (fun _ _ _ h => h) (HSS3.out) (Or.inl ⟨by kernel_rfl, ?hy34⟩) ?r34
        case hy34 =>
          intro w hSw
          try dsimp only at hSw
          go_simp
          try exact ifs5 HEQ.out
          try with_reducible rfl
        try simp only [Act.put, List.getElem_toArray, List.getElem_cons_succ, List.getElem_cons_zero, List.setIfInBounds_toArray, List.set_cons_zero, List.set_cons_succ]
        refine AnyBut.takeS (i := 6) (v := ?v35) rfl (by kernel_rfl) (Nat.le_of_eq (by kernel_rfl)) (by kernel_rfl) (by kernel_rfl) (fun _ _ _ h => h) (HSS3.out) (Or.inl ⟨by kernel_rfl, ?hy35⟩) ?r35
        case hy35 =>
          intro w hSw
          try dsimp only at hSw
          go_simp
          try exact ifs5 HEQ.out
          try with_reducible rfl
        try simp only [Act.put, List.getElem_toArray, List.getElem_cons_succ, List.getElem_cons_zero, List.setIfInBounds_toArray, List.set_cons_zero, List.set_cons_succ]
        refine AnyBut.takeS (i := 8) (v := ?v36) rfl (by kernel_rfl) (Nat.le_of_eq (by kernel_rfl)) (by kernel_rfl) (by kernel_rfl) (fun _ _ _ h => h) (HSS3.out) (Or.inl ⟨by kernel_rfl, ?hy36⟩) ?r36
        case hy36 =>
          intro w hSw
          try dsimp only at hSw
          go_simp
          try exact ifs5 HEQ.out
          try with_reducible rfl
        try simp only [Act.put, List.getElem_toArray, List.getElem_cons_succ, List.getElem_cons_zero, List.setIfInBounds_toArray, List.set_cons_zero, List.set_cons_succ]
        refine AnyBut.takeS (i := 9) (v := ?v37) rfl (by kernel_rfl) (Nat.le_of_eq (by kernel_rfl)) (by kernel_rfl) (by kernel_rfl) (fun _ _ _ h => h) (HSS3.out) (Or.inl ⟨by kernel_rfl, ?hy37⟩) ?r37
        case hy37 =>
          intro w hSw
          try dsimp only at hSw
          go_simp
          try exact ifs5 HEQ.out
          try with_reducible rfl
        try simp only [Act.put, List.getElem_toArray, List.getElem_cons_succ, List.getElem_cons_zero, List.setIfInBounds_toArray, List.set_cons_zero, List.set_cons_succ]
        refine AnyBut.takeS (i := 10) (v := ?v38) rfl (by kernel_rfl) (Nat.le_of_eq (by kernel_rfl)) (by kernel_rfl) (by kernel_rfl) (fun _ _ _ h => h) (HSS3.out) (Or.inl ⟨by kernel_rfl, ?hy38⟩) ?r38
        case hy38 =>
          intro w hSw
          try dsimp only at hSw
          go_simp
          try exact ifs5 HEQ.out
          try with_reducible rfl
        try simp only [Act.put, List.getElem_toArray, List.getElem_cons_succ, List.getElem_cons_zero, List.setIfInBounds_toArray, List.set_cons_zero, List.set_cons_succ]
        refine AnyBut.takeS (i := 11) (v := ?v39) rfl (by kernel_rfl) (Nat.le_of_eq (by kernel_rfl)) (by kernel_rfl) (by kernel_rfl) (fun _ _ _ h => h) (HSS3.out) (Or.inl ⟨by kernel_rfl, ?hy39⟩) ?r39
        case hy39 =>
          intro w hSw
          try dsimp only at hSw
          go_simp
          try exact ifs5 HEQ.out
          try with_reducible rfl
        try simp only [Act.put, List.getElem_toArray, List.getElem_cons_succ, List.getElem_cons_zero, List.setIfInBounds_toArray, List.set_cons_zero, List.set_cons_succ]
        refine AnyBut.one (i := 7) (by kernel_rfl) rfl (fun K hK => ?_)
        go_simp
        go_wp2_with fail
        refine (HSH.out _ HK3.out).mono ?_
        rintro e w33 ⟨rfl, k33⟩
        have HX33 := Lib.hid (HX3.out.on k33)
        have HQ33 := Lib.hid (HQ3.out.same k33 (fun x => x))
        have HK33 := Lib.hid (HK3.out.trans k33)
        have HM33 := Lib.hid (HM3.out.on k33)
        clear k33
        have HSS33 : Hid ((fun w' => w'.cell? ⟨q, 0, none⟩ = some (.int .i64 sc) ∧ w'.cell? ⟨q, 1, none⟩ = some (.int .u64 (ze : Int)) ∧ w'.cell? ⟨q, 2, none⟩ = some (.int .i64 po) ∧ w'.cell? ⟨q, 3, none⟩ = some (.slice ao pl.length c) ∧ w'.cell? ⟨q, 4, none⟩ = some (.int .i64 no) ∧ w'.cell? ⟨q, 5, none⟩ = some (.slice bo nl.length d) ∧ w'.cell? ⟨r, 0, none⟩ = some (.int .i64 (n : Int)) ∧ w'.cell? ⟨r, 1, none⟩ = some (.int .i64 gsc) ∧ w'.cell? ⟨r, 2, none⟩ = some (.int .u64 (gze : Int)) ∧ w'.cell? ⟨r, 3, none⟩ = some (.int .i64 gpo) ∧ w'.cell? ⟨r, 4, none⟩ = some (.slice a1 gpl.length c1) ∧ w'.cell? ⟨r, 5, none⟩ = some (.int .i64 gno) ∧ w'.cell? ⟨r, 6, none⟩ = some (.slice a2 gnl.length c2)) w33) := by
          obtain ⟨x0, x1, x2, x3, x4, x5⟩ := HistBox.c (h := ⟨sc, ze, po, pl, no, nl⟩) HQ33.out
          obtain ⟨y0, y1, y2, y3, y4, y5, y6⟩ := HRow.c (h := ⟨gsc, gze, gpo, gpl, gno, gnl⟩) HX33.out.row
          exact Lib.hid ⟨x0, x1, x2, x3, x4, x5, y0, y1, y2, y3, y4, y5, y6⟩
        go_wp2
        refine hK.out _ _ (HSS33.out) ?_
        clear hK K
        try simp only [Act.put, List.getElem_toArray, List.getElem_cons_succ, List.getElem_cons_zero, List.setIfInBounds_toArray, List.set_cons_zero, List.set_cons_succ]
        refine AnyBut.one (i := 12) (by kernel_rfl) rfl (fun K hK => ?_)
        go_simp
        go_wp2_with fail
        refine (HSG.out _ _ _ ⟨HX33.out.mp.at_, HX33.out.mn.at_⟩).mono ?_
        rintro e w34 ⟨rfl, k34⟩
        have HX34 := Lib.hid (HX33.out.on k34)
        have HQ34 := Lib.hid (HQ33.out.same k34 (fun x => x))
        have HK34 := Lib.hid (HK33.out.trans k34)
        have HM34 := Lib.hid (HM33.out.on k34)
        clear k34
        have HSS34 : Hid ((fun w' => w'.cell? ⟨q, 0, none⟩ = some (.int .i64 sc) ∧ w'.cell? ⟨q, 1, none⟩ = some (.int .u64 (ze : Int)) ∧ w'.cell? ⟨q, 2, none⟩ = some (.int .i64 po) ∧ w'.cell? ⟨q, 3, none⟩ = some (.slice ao pl.length c) ∧ w'.cell? ⟨q, 4, none⟩ = some (.int .i64 no) ∧ w'.cell? ⟨q, 5, none⟩ = some (.slice bo nl.length d) ∧ w'.cell? ⟨r, 0, none⟩ = some (.int .i64 (n : Int)) ∧ w'.cell? ⟨r, 1, none⟩ = some (.int .i64 gsc) ∧ w'.cell? ⟨r, 2, none⟩ = some (.int .u64 (gze : Int)) ∧ w'.cell? ⟨r, 3, none⟩ = some (.int .i64 gpo) ∧ w'.cell? ⟨r, 4, none⟩ = some (.slice a1 gpl.length c1) ∧ w'.cell? ⟨r, 5, none⟩ = some (.int .i64 gno) ∧ w'.cell? ⟨r, 6, none⟩ = some (.slice a2 gnl.length c2)) w34) := by
          obtain ⟨x0, x1, x2, x3, x4, x5⟩ := HistBox.c (h := ⟨sc, ze, po, pl, no, nl⟩) HQ34.out
          obtain ⟨y0, y1, y2, y3, y4, y5, y6⟩ := HRow.c (h := ⟨gsc, gze, gpo, gpl, gno, gnl⟩) HX34.out.row
          exact Lib.hid ⟨x0, x1, x2, x3, x4, x5, y0, y1, y2, y3, y4, y5, y6⟩
        go_wp2
        refine hK.out _ _ (HSS34.out) ?_
        clear hK K
        try simp only [Act.put, List.getElem_toArray, List.getElem_cons_succ, List.getElem_cons_zero, List.setIfInBounds_toArray, List.set_cons_zero, List.set_cons_succ]
        refine AnyBut.takeS (i := 13) (v := ?v40) rfl (by kernel_rfl) (Nat.le_of_eq (by kernel_rfl)) (by kernel_rfl) (by kernel_rfl) (fun _ _ _ h => h) (HSS34.out) (Or.inl ⟨by kernel_rfl, ?hy40⟩) ?r40
        case hy40 =>
          intro w hSw
          try dsimp only at hSw
          go_simp
          try exact ifs5 HEQ.out
          try with_reducible rfl
        try simp only [Act.put, List.getElem_toArray, List.getElem_cons_succ, List.getElem_cons_zero, List.setIfInBounds_toArray, List.set_cons_zero, List.set_cons_succ]
        refine AnyBut.takeS (i := 14) (v := ?v41) rfl (by kernel_rfl) (Nat.le_of_eq (by kernel_rfl)) (by kernel_rfl) (by kernel_rfl) (fun _ _ _ h => h) (HSS34.out) (Or.inl ⟨by kernel_rfl, ?hy41⟩) ?r41
        case hy41 =>
          intro w hSw
          try dsimp only at hSw
          go_simp
          try exact ifs5 HEQ.out
          try with_reducible rfl
        try simp only [Act.put, List.getElem_toArray, List.getElem_cons_succ, List.getElem_cons_zero, List.setIfInBounds_toArray, List.set_cons_zero, List.set_cons_succ]
        refine AnyBut.done (by kernel_rfl) ?_
        go_wp2_with fail
        refine (HP0.out w34 _ HX34.out.bw (by have := HX34.out.mp.kept.size; omega)).mono ?_
        rintro e w5 ⟨rfl, t5⟩
        obtain ⟨v5, b5, o5, k5, HC5⟩ := t5.part2
        have HX5 := Lib.hid (HX34.out.wrote b5 k5)
        have HA5 := Lib.hid ((HHA.out _ HK34.out).wrote HAP.out t5)
        have HQ5 : Hid (HistBox w5 q ⟨sc, ze, po, pl, no, nl⟩ (.slice ao pl.length c) (.slice bo nl.length d)) := Lib.hid (BwTo.newer t5 HQ34.out HQN.out.1 HQN.out.2)
        have HM5 := Lib.hid (HM34.out.wrote HX34.out.bw t5)
        have HT5 := Lib.hid t5
        clear t5 b5 o5 k5
        obtain ⟨x0, x1, x2, x3, x4, x5⟩ := HistBox.c (h := ⟨sc, ze, po, pl, no, nl⟩) HQ5.out
        simp only at x0 x1 x2 x3 x4 x5
        go_wp2_with fail
        refine (shapeOf_any ⟨sc, ze, po, pl, no, nl⟩ _ _ w5 HA5.out).mono ?_
        rintro e w6 ⟨rfl, k6⟩
        have HX6 := Lib.hid (HX5.out.on k6)
        have HQ6 := Lib.hid (HistBox.same HQ5.out k6 (fun x => x))
        have HK6 := Lib.hid k6
        clear k6
        clear x0 x1 x2 x3 x4 x5
        go_wp2_with fail
        refine (HPS.out w6 v5 _ HX6.out.bw (by have := HX6.out.mp.kept.size; omega) (by rw [List.length_append, bitsN_length]; have := HL.out; omega) (HTT.out _ (HX6.out.mp.kept))).mono ?_
        rintro e w7 ⟨rfl, t7⟩
        have HT7 := Lib.hid (HC5.out _ _ (BwTo.ahead HK6.out t7))
        clear t7
        go_wp2
        go_loopg [68] N (fun g s68 wr => ∃ i : Nat, i ≤ N ∧ g = N - i ∧ s68 = .int .i64 i ∧ BwTo (w34) wr W.heap.size p v (bs ++ bitsN 0 1 ++ shapeB ⟨sc, ze, po, pl, no, nl⟩ ++ (C.take i).flatMap smallB))
        case atStart => exact ⟨0, Nat.zero_le _, rfl, rfl, by simpa using HT7.out⟩
        case round =>
          obtain ⟨i, hiN, rfl, rfl, ht⟩ := hrel
          have HT := Lib.hid ht
          have HMr := Lib.hid (HM34.out.wrote HX34.out.bw ht)
          clear ht
          by_cases hd : i < N
          · have hdi : (i : Int) < (N : Int) := by omega
            have HD := Lib.hid hd
            have wi : IntKind.i64.wrap ((i : Int) + 1) = ((i + 1 : Nat) : Int) := by rw [IntWalk.i64_in _ ⟨by omega, by have := HN.out; omega⟩]; omega
            obtain ⟨gb, off, ha3, hc3⟩ := HMr.out.elem (uvals_get (l := C) (j := i) (by have := HCN.out; omega))
            cases ha3
            obtain ⟨x, hx⟩ : ∃ x, x = C.getD i 0 := ⟨_, rfl⟩
            rw [← hx] at hc3
            have HXX := Lib.hid (And.intro hx (show x < 18446744073709551616 by rw [hx]; exact HLT.out i))
            obtain ⟨vr, br, or_, kr, HCr⟩ := HT.out.part2
            have HPU := Lib.hid (varyPut_any W.heap.size p vr _ x wr br HB0.out (by have := HK34.out.size; have := kr.size; have := HX34.out.mp.kept.size; omega) HXX.out.2 (by have h1 := HL.out; have h2 := shapeB_len ⟨sc, ze, po, pl, no, nl⟩; have h3 := smalls_len (C.take i); have h4 := HN.out; rw [List.length_take] at h3; simp only [List.length_append, bitsN_length]; omega) ((HTT.out _ HX34.out.mp.kept).bw HX34.out.bw HB0.out HT.out))
            have HST := Lib.hid (smalls_take C i (by have := HCN.out; omega))
            clear hd hx br or_ kr
            go_wp2_with fail
            refine HPU.out.mono ?_
            rintro e wq ⟨rfl, tq⟩
            have HTq := Lib.hid (HCr.out _ _ tq)
            clear tq hc3
            go_wp2
            go_roundg (N - (i + 1))
            case measure => have := HD.out; omega
            case rel => exact ⟨i + 1, HD.out, rfl, rfl, by rw [HST.out, HXX.out.1.symm, ← List.append_assoc]; exact HTq.out⟩
          · obtain rfl : i = N := by omega
            clear hd
            have HRr := Lib.hid (HX34.out.row.wrote HX34.out.ne.1 HX34.out.ne.2 HT.out)
            have HAr := Lib.hid ((HHA.out _ HK34.out).wrote HAP.out HT.out)
            have HQr : Hid (HistBox wr q ⟨sc, ze, po, pl, no, nl⟩ (.slice ao pl.length c) (.slice bo nl.length d)) := Lib.hid (BwTo.newer HT.out HQ34.out HQN.out.1 HQN.out.2)
            obtain ⟨x0, x1, x2, x3, x4, x5⟩ := HistBox.c (h := ⟨sc, ze, po, pl, no, nl⟩) HQr.out
            simp only at x0 x1 x2 x3 x4 x5
            go_wp2_with fail
            refine (hgoOn_any r n ⟨gsc, gze, gpo, gpl, gno, gnl⟩ ⟨sc, ze, po, pl, no, nl⟩ _ _ _ _ wr HRr.out HAr.out HNN.out HPL.out.1 HPL.out.2).mono ?_
            rintro e w9 ⟨rfl, g9⟩
            have HF := Lib.hid (PutTo.ahead HK34.out (HX34.out.put HT.out g9))
            clear g9 x0 x1 x2 x3 x4 x5
            go_wp2
            go_ret
            refine ⟨by rw [HE.out]; rfl, .inr ⟨HE.out, ?_⟩⟩
            have hf := HF.out
            rw [← HCN.out, List.take_length] at hf
            rw [HNB.out]
            simpa [List.append_assoc] using hf
  · have HE := Lib.hid he
    obtain ⟨E, hE⟩ : ∃ E, E = h.err := ⟨_, rfl⟩
    rw [← hE] at HE HCK ⊢
    have q0 : ((E : Int) != 0) = true := bneT (by have := HE.out; omega)
    obtain ⟨sc, ze, po, pl, no, nl⟩ := h
    obtain ⟨gsc, gze, gpo, gpl, gno, gnl⟩ := g
    unfold histV at HCK ⊢
    simp only at HCK ⊢
    obtain ⟨w0, hw0⟩ : ∃ w0, w0 = w.alloc (.cells #[.int .i64 sc, .int .u64 (ze : Int), .int .i64 po, .slice ao pl.length c, .int .i64 no, .slice bo nl.length d] 62) := ⟨_, rfl⟩
    have HQ0 := Lib.hid (show HistBox w0 w.heap.size ⟨sc, ze, po, pl, no, nl⟩ (.slice ao pl.length c) (.slice bo nl.length d) by rw [hw0]; exact heap_alloc_new w _)
    have HK0 := Lib.hid (show Kept (fun _ => False) w w0 by rw [hw0]; exact (Kept.refl _ _).alloc _)
    have HX0 := Lib.hid (X.on HK0.out)
    have HW0 := Lib.hid hw0
    obtain ⟨q, hq⟩ : ∃ q, q = w.heap.size := ⟨_, rfl⟩
    have HQ := Lib.hid hq
    have HQN := Lib.hid (show q ≠ p ∧ v.ownBlock ≠ some q from ⟨by have := X.bw.lt; omega, fun e => by have := (ownsRow_lt X.bw.owns e).1; omega⟩)
    rw [← hq] at HQ0
    clear hw0 hq
    clear hap hok hB0 hn hl hp hnl hgp hgn HT hsz hN hCN hC hD X ha he hE HCO HHA HAP HPL HB0 HNN HL HGL HTT HLT HSH HSG HP0 HP1 HCN HWW
    go_enter Tryd.func39, Tryd.ntmps39
    go_upto_region 1 with fail
    rw [← HW0.out, ← HQ.out]
    obtain ⟨x0, x1, x2, x3, x4, x5⟩ := HistBox.c (h := ⟨sc, ze, po, pl, no, nl⟩) HQ0.out
    simp only at x0 x1 x2 x3 x4 x5
    go_wp2_with fail
    refine (HCK.out w0 HK0.out).mono ?_
    rintro e w1 ⟨rfl, k1⟩
    have HK1 := Lib.hid (HK0.out.trans k1)
    clear k1
    go_wp2
    go_ret
    exact ⟨rfl, .inl ⟨HE.out, HK1.out⟩⟩
end Go.Proofs.YtjpnfadmblmjbaaDoor
/- Layer 10: awake. -/
namespace Go.Proofs.YtjpnfadmblmjbaaDoor
open Go.RowKit
attribute [local go_sem ↓] Go.wp_at_zero Go.wp_at_succ

theorem slAt_nil (w : World) : SlAt w (.slice none 0 0) [] := (Mine.nil w 28).at_
theorem histAt_zero (w : World) (sc : Int) : HistAt w ⟨sc, 0, 0, [], 0, []⟩ (.slice none 0 0) (.slice none 0 0) := ⟨slAt_nil w, slAt_nil w⟩
theorem zero_ok (sc : Int) (h : -100 ≤ sc ∧ sc ≤ 100) : HistV.ok ⟨sc, 0, 0, [], 0, []⟩ := by
  refine ⟨⟨?_, ?_⟩, ?_, ⟨?_, ?_⟩, ?_, ⟨?_, ?_⟩, ?_⟩ <;> dsimp only <;> first | omega | simp
theorem aw10_e0 : HistV.err zeroH = 0 := by decide
theorem aw10_e1 : HistV.err ⟨99, 0, 0, [], 0, []⟩ = 1 := by decide
theorem aw10_l1 : (([] : List Bool) ++ nextH 0 zeroH zeroH).length = 24 := by decide +kernel
theorem aw10_l2 : (([] : List Bool) ++ nextH 0 zeroH zeroH ++ nextH 1 zeroH zeroH).length = 27 := by decide +kernel
theorem aw10_p2 : strN (packB (([] : List Bool) ++ nextH 0 zeroH zeroH ++ nextH 1 zeroH zeroH)) = ⟨#[40, 0, 0, 128]⟩ := by decide +kernel
/-- An empty histogram is put. -/
theorem hput_zero (W w : World) (p r n : Nat) (v gp gn : Value) (bs : List Bool) (sc : Int) (e : Nat) (X : HB W w p r v bs n zeroH gp gn) (hB0 : 0 < W.heap.size) (hn : n ≤ 100000) (hl : bs.length ≤ 50000000) (HT : ClassTab W) (hs : -100 ≤ sc ∧ sc ≤ 100) (he : HistV.err ⟨sc, 0, 0, [], 0, []⟩ = e) :
    Calls Tryd.prog 39 #[.pointer (some ⟨r, 0, none⟩), .pointer (some ⟨p, 0, none⟩), .agg #[.int .i64 sc, .int .u64 0, .int .i64 0, .slice none 0 0, .int .i64 0, .slice none 0 0]] w fun u w' => u = .returned (.int .i64 (e : Int)) ∧ ((e ≠ 0 ∧ Kept (fun _ => False) w w') ∨ (e = 0 ∧ PutTo W w w' p r v (bs ++ nextH n zeroH ⟨sc, 0, 0, [], 0, []⟩) (n + 1) ⟨sc, 0, 0, [], 0, []⟩)) := by
  have := hput_any W w p r n v gp gn (.slice none 0 0) (.slice none 0 0) bs zeroH ⟨sc, 0, 0, [], 0, []⟩ X (histAt_zero w sc) (fun k _ => ⟨fun e => absurd rfl e, fun e => absurd rfl e⟩) (zero_ok sc hs) hB0 hn hl (Nat.zero_le _) (Nat.zero_le _) (Nat.zero_le _) (Nat.zero_le _) HT
  rw [he] at this
  exact this

set_option maxHeartbeats 4000000 in
set_option maxRecDepth 100000 in
theorem awake10_any (w : World) (HT : ClassTab w) (hB0 : 0 < w.heap.size) :
    Calls Tryd.prog 34 #[] w fun e w' => e = .returned (.bool true) ∧ Kept (fun _ => False) w w' := by
  have HTT := Lib.hid HT
  have HB0 := Lib.hid hB0
  clear HT hB0
  go_enter Tryd.func34, Tryd.ntmps34
  go_wp2_with fail
  refine (bnew_any w).mono ?_
  rintro e w1 ⟨rfl, hw1⟩
  have H0 := bnew_at w.heap.size w (Nat.le_refl _)
  rw [← hw1] at H0
  have K1 : Kept (fun _ => False) w w1 := by rw [hw1]; exact (Kept.refl _ _).alloc _
  clear hw1
  go_wp2_with fail
  refine (hnewRow_any w1).mono ?_
  rintro e w2 ⟨rfl, hr, K2⟩
  have HH : HB w w2 w.heap.size w1.heap.size (.slice none 0 0) [] 0 zeroH (.slice none 0 0) (.slice none 0 0) := ⟨H0.keptF K2, hr, Mine.nil' _ (K1.trans K2), Mine.nil' _ (K1.trans K2), K1.size⟩
  obtain ⟨r, hr1⟩ : ∃ r, r = w1.heap.size := ⟨_, rfl⟩
  obtain ⟨p, hp1⟩ : ∃ p, p = w.heap.size := ⟨_, rfl⟩
  have HH' : HB w w2 p r (.slice none 0 0) [] 0 zeroH (.slice none 0 0) (.slice none 0 0) := by rw [hp1, hr1]; exact HH
  rw [← hr1, ← hp1]
  have HX0 := Lib.hid HH'
  clear hr K1 K2 H0 hr1 hp1 HH HH'
  go_wp2_with fail
  refine (hput_zero w w2 p r 0 _ _ _ [] 0 0 HX0.out HB0.out (by omega) (by simp) HTT.out (by omega) aw10_e0).mono ?_
  rintro e w3 ⟨rfl, hq⟩
  obtain ⟨v3, p3, n3, h3, _, _⟩ : PutTo w w2 w3 p r (.slice none 0 0) ([] ++ nextH 0 zeroH zeroH) (0 + 1) zeroH := by
    rcases hq with ⟨h, _⟩ | ⟨_, h⟩
    · exact absurd rfl h
    · exact h
  have HX1 := Lib.hid h3
  have hlen := bwlen_any _ _ _ _ _ h3.bw
  rw [aw10_l1] at hlen
  have HL1 := Lib.hid hlen
  clear hq h3 hlen
  go_wp2_with fail
  refine HL1.out.mono ?_
  rintro e w' ⟨rfl, rfl⟩
  go_wp2_with fail
  refine (hput_zero w w3 p r 1 _ _ _ _ 0 0 HX1.out HB0.out (by omega) (by rw [aw10_l1]; omega) HTT.out (by omega) aw10_e0).mono ?_
  rintro e w4 ⟨rfl, hq⟩
  obtain ⟨v4, p4, n4, h4, _, _⟩ : PutTo w w3 w4 p r v3 ([] ++ nextH 0 zeroH zeroH ++ nextH 1 zeroH zeroH) (1 + 1) zeroH := by
    rcases hq with ⟨h, _⟩ | ⟨_, h⟩
    · exact absurd rfl h
    · exact h
  have HX2 := Lib.hid h4
  have hlen := bwlen_any _ _ _ _ _ h4.bw
  rw [aw10_l2] at hlen
  have HL2 := Lib.hid hlen
  have HN2 := Lib.hid (hlen_any _ _ _ _ _ _ h4.row)
  have hby := bytesStr w _ _ _ _ h4.bw (by rw [aw10_l2]; omega)
  rw [aw10_p2] at hby
  have HB2 := Lib.hid hby
  clear hq h4 hlen hby
  go_wp2_with fail
  refine HL2.out.mono ?_
  rintro e w' ⟨rfl, rfl⟩
  go_wp2_with fail
  refine HN2.out.mono ?_
  rintro e w' ⟨rfl, rfl⟩
  go_wp2_with fail
  refine HB2.out.mono ?_
  rintro e w5 ⟨vb, rfl, hcv, hk⟩
  have hcv5 := hcv w5 (Kept.refl _ _)
  have HX3 := Lib.hid (HX2.out.on hk)
  clear hcv hk
  go_wp2_with fail
  refine (hput_zero w w5 p r 2 _ _ _ _ 99 1 HX3.out HB0.out (by omega) (by rw [aw10_l2]; omega) HTT.out (by omega) aw10_e1).mono ?_
  rintro e w6 ⟨rfl, hq⟩
  have hk : Kept (fun _ => False) w5 w6 := by
    rcases hq with ⟨_, h⟩ | ⟨h, _⟩
    · exact h
    · exact absurd h (by decide)
  have HK6 := Lib.hid (HX3.out.mp.kept.trans hk)
  clear hq hk hcv5
  go_wp2
  go_ret
  exact ⟨rfl, HK6.out⟩
end Go.Proofs.YtjpnfadmblmjbaaDoor
