/- Layer 11: label.next (written by tools/gen_XAG.py). -/
import Derived.Test.YtkgjkcfjkjkflaaDoorAF
namespace Go.Proofs.YtkgjkcfjkjkflaaDoor
open Go.RowKit
attribute [local go_sem ↓] Go.wp_at_zero Go.wp_at_succ

theorem pair_info : (Tryd.prog.info? 40).map (·.size) = some 2 := by kernel_rfl
/-- An attribute in its block. -/
def PBox (w : World) (q : Nat) (p : Pr) : Prop := w.heap[q]? = some (.cells #[.string p.k, .string p.v] 40 (0, 0))
theorem PBox.same {S : Nat → Prop} {w w' : World} {q : Nat} {p : Pr} (b : PBox w q p) (hk : Kept S w w') (hn : ¬ S q) : PBox w' q p := hk.same b hn
theorem PBox.fz {w : World} {q : Nat} {p : Pr} (b : PBox w q p) (j : Nat) : w.frozen? ⟨q, j, none⟩ = false := by unfold PBox at b; simp [World.frozen?, b]
theorem PBox.set {w : World} {q : Nat} {p : Pr} (b : PBox w q p) (p' : Pr) : PBox ((w.setCell ⟨q, 0, none⟩ (.string p'.k)).setCell ⟨q, 1, none⟩ (.string p'.v)) q p' := by
  unfold PBox at *; simp [World.setCell, Array.getElem?_modify, b]
theorem set2_keptP (w : World) (q : Nat) (x y : Value) : Kept (fun k => k = q) w ((w.setCell ⟨q, 0, none⟩ x).setCell ⟨q, 1, none⟩ y) :=
  ((Kept.refl (fun k => k = q) w).setCell (p := ⟨q, 0, none⟩) (fun _ => rfl) x).setCell (p := ⟨q, 1, none⟩) (fun _ => rfl) y
theorem pair_end {fn : Func} {p0 s : Tmp} {a : Act} {P : Ending → World → Prop} {w : World} {q : Nat} {p : Pr} {x : Value} (hres : fn.results = #[.cell p0 40, .tmp s]) (hp : a.tmps.getD p0 undef = .pointer (some ⟨q, 0, none⟩)) (hx : a.tmps.getD s undef = x) (hd : a.defers = [])
    (hg : PBox w q p) (hP : P (.returned (.tuple #[.agg #[.string p.k, .string p.v], x])) w) : bodyPost Tryd.prog fn P .ret a w := by
  refine bodyPost_ret (v := .tuple #[.agg #[.string p.k, .string p.v], x]) ?_ hd hP
  have hp' : a.tmps[p0]?.getD undef = .pointer (some ⟨q, 0, none⟩) := by simpa using hp
  have hx' : a.tmps[s]?.getD undef = x := by simpa using hx
  have hl := run_loadVar_row (P := Tryd.prog) w q 40 40 _ (0, 0) _ hg Tryd.underlying40 rfl pair_info
  simp [results, hres, hp', hx', asAddr, hl]
/-- The attribute that a part tells behind those ahead of it, and what is wrong with it. -/
def nextE (A : List Pr) (part : ByteArray) : Pr × Nat :=
  if A.length = 4 then (pr0, 4)
  else if (cutS part 61).2.2 = true ∧ nameB (cutS part 61).1 = true ∧ valueB (cutS part 61).2.1 = true then
    if hasB A (cutS part 61).1 = true then (pr0, 8)
    else if 0 < A.length ∧ ltS (cutS part 61).1 (A.getD (A.length - 1) pr0).k = true then (pr0, 9)
    else (⟨(cutS part 61).1, (cutS part 61).2.1⟩, 0)
  else (pr0, 3)
theorem cutS_size (s : ByteArray) (c : UInt8) : (cutS s c).1.size ≤ s.size ∧ (cutS s c).2.1.size ≤ s.size := by
  unfold cutS
  split
  · exact ⟨Nat.le_refl _, Nat.zero_le _⟩
  · exact ⟨extract_le _ _ _, extract_le _ _ _⟩

set_option maxHeartbeats 8000000 in
theorem next_any (ao : Option Addr) (c : Nat) (A : List Pr) (part : ByteArray) (w : World) (hr : PsAt w ao A) (hl : A.length ≤ 4) (hz : part.size ≤ 100000) :
    Calls Tryd.prog 27 #[.slice ao A.length c, .string part] w fun e w' => e = .returned (.tuple #[.agg #[.string (nextE A part).1.k, .string (nextE A part).1.v], .int .i64 ((nextE A part).2 : Int)]) ∧ Kept (fun _ => False) w w' := by
  obtain ⟨w0, hw0⟩ : ∃ w0, w0 = w.alloc (.cells #[.string { data := #[] }, .string { data := #[] }] 40) := ⟨_, rfl⟩
  have k0 : Kept (fun _ => False) w w0 := by rw [hw0]; exact (Kept.refl _ _).alloc _
  have HBw0 := Lib.hid (show PBox w0 w.heap.size pr0 by rw [hw0]; exact heap_alloc_new w _)
  have hc1 := Lib.hid fun w => scut1_any part 61 w (by omega)
  have hcs := cutS_size part 61
  have HE : Hid (nextE A part = if A.length = 4 then (pr0, 4) else if (cutS part 61).2.2 = true ∧ nameB (cutS part 61).1 = true ∧ valueB (cutS part 61).2.1 = true then (if hasB A (cutS part 61).1 = true then (pr0, 8) else if 0 < A.length ∧ ltS (cutS part 61).1 (A.getD (A.length - 1) pr0).k = true then (pr0, 9) else (⟨(cutS part 61).1, (cutS part 61).2.1⟩, 0)) else (pr0, 3)) := Lib.hid rfl
  obtain ⟨NE, hNE⟩ : ∃ x, x = nextE A part := ⟨_, rfl⟩
  rw [← hNE] at HE ⊢
  obtain ⟨R, hR⟩ : ∃ R, R = cutS part 61 := ⟨_, rfl⟩
  rw [← hR] at HE hc1 hcs
  obtain ⟨key, val, b⟩ := R
  dsimp only at HE hc1 hcs
  have HN := Lib.hid fun w => isName_any key w (by omega)
  have HV := Lib.hid fun w => isValue_any val w (by omega)
  have HH := Lib.hid fun w' (k : Kept (fun _ => False) w w') => has_any ao c A key w' (hr.kept k) (by omega)
  obtain ⟨NB, hNB⟩ : ∃ x, x = nameB key := ⟨_, rfl⟩
  obtain ⟨VB, hVB⟩ : ∃ x, x = valueB val := ⟨_, rfl⟩
  obtain ⟨HB, hHB⟩ : ∃ x, x = hasB A key := ⟨_, rfl⟩
  rw [← hNB] at HN HE
  rw [← hVB] at HV HE
  rw [← hHB] at HH HE
  obtain ⟨q, hq⟩ : ∃ q, q = w.heap.size := ⟨_, rfl⟩
  rw [← hq] at HBw0
  have HQ := Lib.hid hq
  have HW0 := Lib.hid hw0
  have HKw0 := Lib.hid k0
  have HRR := Lib.hid hr
  obtain ⟨n, hn⟩ : ∃ n, n = A.length := ⟨_, rfl⟩
  rw [← hn] at HH HE hl ⊢
  have HNN := Lib.hid hn
  have HL := Lib.hid hl
  have HQ0 : Hid (w.heap.size ≤ q) := Lib.hid (by omega)
  clear k0 hcs hNE hR hNB hVB hHB hq hr hn hz hw0 hl
  by_cases h4 : n = 4
  · have q4 : ((n : Int) == 4) = true := beqT (by omega)
    have q4b : (n == 4) = true := by simp [h4]
    have HR := Lib.hid (HE.out.trans (if_pos h4))
    clear h4
    go_enter Tryd.func27, Tryd.ntmps27
    go_upto_region 1 with fail
    rw [← HW0.out, ← HQ.out]
    have b0 : w0.cell? ⟨q, 0, none⟩ = some (.string ByteArray.empty) := (cell_of_row _ _ 0 _ _ _ HBw0.out).trans rfl
    have b1 : w0.cell? ⟨q, 1, none⟩ = some (.string ByteArray.empty) := (cell_of_row _ _ 1 _ _ _ HBw0.out).trans rfl
    have f0 := HBw0.out.fz 0
    have f1 := HBw0.out.fz 1
    go_wp2
    try simp only [Exit.inBlock, Exit.then]
    refine pair_end (p := pr0) Tryd.results27 rfl rfl rfl (HBw0.out.set pr0) ?_
    exact ⟨by rw [HR.out]; rfl, HKw0.out.newer (set2_keptP _ _ _ _) (fun k e => by have := HQ.out; omega)⟩
  · have q4 : ((n : Int) == 4) = false := beqF (by omega)
    have q4b : (n == 4) = false := by simp [h4]
    have HE2 := Lib.hid (HE.out.trans (if_neg h4))
    clear h4
    cases b with
    | false =>
      have HR := Lib.hid (HE2.out.trans (if_neg (fun e => by cases e.1)))
      go_enter Tryd.func27, Tryd.ntmps27
      go_upto_region 1 with fail
      rw [← HW0.out, ← HQ.out]
      go_wp2_with fail
      refine (hc1.out _).mono ?_
      rintro e w1 ⟨rfl, k1⟩
      have HKw1 := Lib.hid (HKw0.out.trans k1)
      have HBw1 := Lib.hid (HBw0.out.same k1 (fun x => x))
      clear k1
      have b0 : w1.cell? ⟨q, 0, none⟩ = some (.string ByteArray.empty) := (cell_of_row _ _ 0 _ _ _ HBw1.out).trans rfl
      have b1 : w1.cell? ⟨q, 1, none⟩ = some (.string ByteArray.empty) := (cell_of_row _ _ 1 _ _ _ HBw1.out).trans rfl
      have f0 := HBw1.out.fz 0
      have f1 := HBw1.out.fz 1
      go_wp2
      try simp only [Exit.inBlock, Exit.then]
      refine pair_end (p := pr0) Tryd.results27 rfl rfl rfl (HBw1.out.set pr0) ?_
      exact ⟨by rw [HR.out]; rfl, HKw1.out.newer (set2_keptP _ _ _ _) (fun k e => by have := HQ.out; omega)⟩
    | true =>
      cases NB with
      | false =>
        have HR := Lib.hid (HE2.out.trans (if_neg (fun e => by cases e.2.1)))
        go_enter Tryd.func27, Tryd.ntmps27
        go_upto_region 1 with fail
        rw [← HW0.out, ← HQ.out]
        go_wp2_with fail
        refine (hc1.out _).mono ?_
        rintro e w1 ⟨rfl, k1⟩
        have HKw1 := Lib.hid (HKw0.out.trans k1)
        have HBw1 := Lib.hid (HBw0.out.same k1 (fun x => x))
        clear k1
        go_wp2_with fail
        refine (HN.out _).mono ?_
        rintro e w' ⟨rfl, rfl⟩
        have b0 : w1.cell? ⟨q, 0, none⟩ = some (.string ByteArray.empty) := (cell_of_row _ _ 0 _ _ _ HBw1.out).trans rfl
        have b1 : w1.cell? ⟨q, 1, none⟩ = some (.string ByteArray.empty) := (cell_of_row _ _ 1 _ _ _ HBw1.out).trans rfl
        have f0 := HBw1.out.fz 0
        have f1 := HBw1.out.fz 1
        go_wp2
        try simp only [Exit.inBlock, Exit.then]
        refine pair_end (p := pr0) Tryd.results27 rfl rfl rfl (HBw1.out.set pr0) ?_
        exact ⟨by rw [HR.out]; rfl, HKw1.out.newer (set2_keptP _ _ _ _) (fun k e => by have := HQ.out; omega)⟩
      | true =>
        cases VB with
        | false =>
          have HR := Lib.hid (HE2.out.trans (if_neg (fun e => by cases e.2.2)))
          go_enter Tryd.func27, Tryd.ntmps27
          go_upto_region 1 with fail
          rw [← HW0.out, ← HQ.out]
          go_wp2_with fail
          refine (hc1.out _).mono ?_
          rintro e w1 ⟨rfl, k1⟩
          have HKw1 := Lib.hid (HKw0.out.trans k1)
          have HBw1 := Lib.hid (HBw0.out.same k1 (fun x => x))
          clear k1
          go_wp2_with fail
          refine (HN.out _).mono ?_
          rintro e w' ⟨rfl, rfl⟩
          go_wp2_with fail
          refine (HV.out _).mono ?_
          rintro e w' ⟨rfl, rfl⟩
          have b0 : w1.cell? ⟨q, 0, none⟩ = some (.string ByteArray.empty) := (cell_of_row _ _ 0 _ _ _ HBw1.out).trans rfl
          have b1 : w1.cell? ⟨q, 1, none⟩ = some (.string ByteArray.empty) := (cell_of_row _ _ 1 _ _ _ HBw1.out).trans rfl
          have f0 := HBw1.out.fz 0
          have f1 := HBw1.out.fz 1
          go_wp2
          try simp only [Exit.inBlock, Exit.then]
          refine pair_end (p := pr0) Tryd.results27 rfl rfl rfl (HBw1.out.set pr0) ?_
          exact ⟨by rw [HR.out]; rfl, HKw1.out.newer (set2_keptP _ _ _ _) (fun k e => by have := HQ.out; omega)⟩
        | true =>
          have HE3 := Lib.hid (HE2.out.trans (if_pos ⟨rfl, rfl, rfl⟩))
          cases HB with
          | true =>
            have HR := Lib.hid (HE3.out.trans (if_pos rfl))
            go_enter Tryd.func27, Tryd.ntmps27
            go_upto_region 1 with fail
            rw [← HW0.out, ← HQ.out]
            go_wp2_with fail
            refine (hc1.out _).mono ?_
            rintro e w1 ⟨rfl, k1⟩
            have HKw1 := Lib.hid (HKw0.out.trans k1)
            have HBw1 := Lib.hid (HBw0.out.same k1 (fun x => x))
            clear k1
            go_wp2_with fail
            refine (HN.out _).mono ?_
            rintro e w' ⟨rfl, rfl⟩
            go_wp2_with fail
            refine (HV.out _).mono ?_
            rintro e w' ⟨rfl, rfl⟩
            go_wp2_with fail
            refine (HH.out _ HKw1.out).mono ?_
            rintro e w2 ⟨rfl, k2⟩
            have HKw2 := Lib.hid (HKw1.out.trans k2)
            have HBw2 := Lib.hid (HBw1.out.same k2 (fun x => x))
            clear k2
            have b0 : w2.cell? ⟨q, 0, none⟩ = some (.string ByteArray.empty) := (cell_of_row _ _ 0 _ _ _ HBw2.out).trans rfl
            have b1 : w2.cell? ⟨q, 1, none⟩ = some (.string ByteArray.empty) := (cell_of_row _ _ 1 _ _ _ HBw2.out).trans rfl
            have f0 := HBw2.out.fz 0
            have f1 := HBw2.out.fz 1
            go_wp2
            try simp only [Exit.inBlock, Exit.then]
            refine pair_end (p := pr0) Tryd.results27 rfl rfl rfl (HBw2.out.set pr0) ?_
            exact ⟨by rw [HR.out]; rfl, HKw2.out.newer (set2_keptP _ _ _ _) (fun k e => by have := HQ.out; omega)⟩
          | false =>
            have HE4 := Lib.hid (HE3.out.trans (if_neg (by decide)))
            rcases Nat.eq_zero_or_pos n with hn0 | hn0
            · have HR := Lib.hid (HE4.out.trans (if_neg (fun e => by omega)))
              have g1 : ¬ (0 : Int) < (n : Int) := by omega
              have g2 : decide ((0 : Int) < (n : Int)) = false := decide_eq_false g1
              have g3 : decide (0 < n) = false := decide_eq_false (by omega)
              clear hn0
              go_enter Tryd.func27, Tryd.ntmps27
              go_upto_region 1 with fail
              rw [← HW0.out, ← HQ.out]
              go_wp2_with fail
              refine (hc1.out _).mono ?_
              rintro e w1 ⟨rfl, k1⟩
              have HKw1 := Lib.hid (HKw0.out.trans k1)
              have HBw1 := Lib.hid (HBw0.out.same k1 (fun x => x))
              clear k1
              go_wp2_with fail
              refine (HN.out _).mono ?_
              rintro e w' ⟨rfl, rfl⟩
              go_wp2_with fail
              refine (HV.out _).mono ?_
              rintro e w' ⟨rfl, rfl⟩
              go_wp2_with fail
              refine (HH.out _ HKw1.out).mono ?_
              rintro e w2 ⟨rfl, k2⟩
              have HKw2 := Lib.hid (HKw1.out.trans k2)
              have HBw2 := Lib.hid (HBw1.out.same k2 (fun x => x))
              clear k2
              have b0 : w2.cell? ⟨q, 0, none⟩ = some (.string ByteArray.empty) := (cell_of_row _ _ 0 _ _ _ HBw2.out).trans rfl
              have b1 : w2.cell? ⟨q, 1, none⟩ = some (.string ByteArray.empty) := (cell_of_row _ _ 1 _ _ _ HBw2.out).trans rfl
              have f0 := HBw2.out.fz 0
              have f1 := HBw2.out.fz 1
              go_wp2
              try simp only [Exit.inBlock, Exit.then]
              refine pair_end (p := ⟨key, val⟩) Tryd.results27 rfl rfl rfl (HBw2.out.set ⟨key, val⟩) ?_
              exact ⟨by rw [HR.out]; rfl, HKw2.out.newer (set2_keptP _ _ _ _) (fun k e => by have := HQ.out; omega)⟩
            · obtain ⟨m, hm⟩ : ∃ m, n = m + 1 := ⟨n - 1, by omega⟩
              have g1 : (0 : Int) < (n : Int) := by omega
              have g2 : decide ((0 : Int) < (n : Int)) = true := decide_eq_true g1
              have g3 : decide (0 < n) = true := decide_eq_true hn0
              have wm : IntKind.i64.wrap ((n : Int) - 1) = (m : Int) := by rw [IntWalk.i64_in _ ⟨by omega, by have := HL.out; omega⟩]; omega
              have hmn : (m : Int) < (n : Int) := by omega
              have hm0 : (0 : Int) ≤ (m : Int) := by omega
              have hmA : m < A.length := by have := HNN.out; omega
              obtain ⟨ga, oa, rfl, hrec⟩ := HRR.out (by omega)
              have hel := hrec m A[m] (List.getElem?_eq_getElem hmA)
              have hgd := getD_pr (List.getElem?_eq_getElem hmA) pr0
              obtain ⟨x, hx⟩ : ∃ x, x = A[m] := ⟨_, rfl⟩
              rw [← hx] at hel hgd
              obtain ⟨LT, hLT⟩ : ∃ b, b = ltS key x.k := ⟨_, rfl⟩
              have hlt : Op.bytesLess key.toList x.k.toList = LT := hLT.symm
              have HE5 := Lib.hid (show NE = if LT = true then (pr0, 9) else (⟨key, val⟩, 0) from by
                rw [HE4.out, show n - 1 = m by omega, hgd, ← hLT]
                by_cases h : LT = true
                · rw [if_pos ⟨hn0, h⟩, if_pos h]
                · rw [if_neg (fun e => h e.2), if_neg h])
              have HX := Lib.hid hel.c0
              obtain ⟨xk, xv⟩ := x
              dsimp only at hlt HX
              clear hn0 hm hmA hrec hel hgd hx hLT
              cases LT with
              | true =>
                have HR := Lib.hid (HE5.out.trans (if_pos rfl))
                go_enter Tryd.func27, Tryd.ntmps27
                go_upto_region 1 with fail
                rw [← HW0.out, ← HQ.out]
                go_wp2_with fail
                refine (hc1.out _).mono ?_
                rintro e w1 ⟨rfl, k1⟩
                have HKw1 := Lib.hid (HKw0.out.trans k1)
                have HBw1 := Lib.hid (HBw0.out.same k1 (fun x => x))
                clear k1
                go_wp2_with fail
                refine (HN.out _).mono ?_
                rintro e w' ⟨rfl, rfl⟩
                go_wp2_with fail
                refine (HV.out _).mono ?_
                rintro e w' ⟨rfl, rfl⟩
                go_wp2_with fail
                refine (HH.out _ HKw1.out).mono ?_
                rintro e w2 ⟨rfl, k2⟩
                have HKw2 := Lib.hid (HKw1.out.trans k2)
                have HBw2 := Lib.hid (HBw1.out.same k2 (fun x => x))
                clear k2
                have x0 := HKw2.out.cell HX.out (fun x => x)
                have b0 : w2.cell? ⟨q, 0, none⟩ = some (.string ByteArray.empty) := (cell_of_row _ _ 0 _ _ _ HBw2.out).trans rfl
                have b1 : w2.cell? ⟨q, 1, none⟩ = some (.string ByteArray.empty) := (cell_of_row _ _ 1 _ _ _ HBw2.out).trans rfl
                have f0 := HBw2.out.fz 0
                have f1 := HBw2.out.fz 1
                go_wp2
                try simp only [Exit.inBlock, Exit.then]
                refine pair_end (p := pr0) Tryd.results27 rfl rfl rfl (HBw2.out.set pr0) ?_
                exact ⟨by rw [HR.out]; rfl, HKw2.out.newer (set2_keptP _ _ _ _) (fun k e => by have := HQ.out; omega)⟩
              | false =>
                have HR := Lib.hid (HE5.out.trans (if_neg (by decide)))
                go_enter Tryd.func27, Tryd.ntmps27
                go_upto_region 1 with fail
                rw [← HW0.out, ← HQ.out]
                go_wp2_with fail
                refine (hc1.out _).mono ?_
                rintro e w1 ⟨rfl, k1⟩
                have HKw1 := Lib.hid (HKw0.out.trans k1)
                have HBw1 := Lib.hid (HBw0.out.same k1 (fun x => x))
                clear k1
                go_wp2_with fail
                refine (HN.out _).mono ?_
                rintro e w' ⟨rfl, rfl⟩
                go_wp2_with fail
                refine (HV.out _).mono ?_
                rintro e w' ⟨rfl, rfl⟩
                go_wp2_with fail
                refine (HH.out _ HKw1.out).mono ?_
                rintro e w2 ⟨rfl, k2⟩
                have HKw2 := Lib.hid (HKw1.out.trans k2)
                have HBw2 := Lib.hid (HBw1.out.same k2 (fun x => x))
                clear k2
                have x0 := HKw2.out.cell HX.out (fun x => x)
                have b0 : w2.cell? ⟨q, 0, none⟩ = some (.string ByteArray.empty) := (cell_of_row _ _ 0 _ _ _ HBw2.out).trans rfl
                have b1 : w2.cell? ⟨q, 1, none⟩ = some (.string ByteArray.empty) := (cell_of_row _ _ 1 _ _ _ HBw2.out).trans rfl
                have f0 := HBw2.out.fz 0
                have f1 := HBw2.out.fz 1
                go_wp2
                try simp only [Exit.inBlock, Exit.then]
                refine pair_end (p := ⟨key, val⟩) Tryd.results27 rfl rfl rfl (HBw2.out.set ⟨key, val⟩) ?_
                exact ⟨by rw [HR.out]; rfl, HKw2.out.newer (set2_keptP _ _ _ _) (fun k e => by have := HQ.out; omega)⟩
end Go.Proofs.YtkgjkcfjkjkflaaDoor

