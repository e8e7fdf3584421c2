/- Layer 11: the document's Parse (written by tools/gen_XAQ.py). -/
import Derived.Test.YtkgjkcfjkjkflaaDoorAP
namespace Go.Proofs.YtkgjkcfjkjkflaaDoor
open Go.RowKit
attribute [local go_sem ↓] Go.wp_at_zero Go.wp_at_succ

set_option maxHeartbeats 16000000 in
set_option maxRecDepth 100000 in
theorem refParse11_any (s : ByteArray) (w : World) (hs : s.size ≤ 100000) :
    Calls Tryd.prog 16 #[.string s] w fun e w' => ∃ v, e = .returned (.agg #[.string (parseL s).1, v, .int .i64 ((parseL s).2.2.1 : Int), .int .i64 ((parseL s).2.2.2 : Int)]) ∧ MineP w w' v (parseL s).2.1 := by
  have hst := DP.start s
  have hno := parseL_noName (s := s)
  have hle := (findN_le s 0 59 (Nat.zero_le _)).2
  have hhz := size_head s
  have hdef : headT s = s.extract 0 (findN s 0 59) := rfl
  have HF0 := Lib.hid fun w => refFind_any s 0 59 59 rfl (Nat.zero_le _) (by omega) w
  obtain ⟨f0, hf0⟩ : ∃ f, f = findN s 0 59 := ⟨_, rfl⟩
  rw [← hf0] at HF0 hst hle hhz hdef
  obtain ⟨name, hname⟩ : ∃ n, n = headT s := ⟨_, rfl⟩
  rw [← hname] at hhz hdef hno
  have cN : ∀ w, (Instr.slice 9 (.string s) none (some (.int .i64 (f0 : Int))) none).run Tryd.prog w = .ok (.string name) w := fun w => by
    have := run_slice_string_h (P := Tryd.prog) w 9 s Tryd.underlying9 .i64 (f0 : Int) (by omega) (by omega); rw [hdef]; simpa using this
  have HN := Lib.hid fun w => refName_any name w (by omega)
  have hbad : ∀ i k A p E, DP s i k A → i < s.size → nextE A (s.extract (i + 1) (findN s (i + 1) 59)) = (p, E) → E ≠ 0 → nameB name = true → parseL s = (ByteArray.empty, [], i + 1, E) := fun i k A p E h h1 h2 h3 h4 => h.bad h1 h2 h3 (by rw [← hname]; exact h4)
  have hdone : ∀ i k A, DP s i k A → ¬ i < s.size → nameB name = true → parseL s = (name, A, 0, 0) := fun i k A h h1 h2 => by rw [hname]; exact h.done h1 (by rw [← hname]; exact h2)
  obtain ⟨PL, hPL⟩ : ∃ x, x = parseL s := ⟨_, rfl⟩
  rw [← hPL] at hno hbad hdone ⊢
  have HBAD := Lib.hid hbad
  have HDONE := Lib.hid hdone
  have HNO := Lib.hid hno
  obtain ⟨NB, hNB⟩ : ∃ b, b = nameB name := ⟨_, rfl⟩
  rw [← hNB] at HN
  have HNB := Lib.hid hNB
  have HST := Lib.hid hst
  have HS := Lib.hid hs
  obtain ⟨w0, hw0⟩ : ∃ w0, w0 = w.alloc (.cells #[.string { data := #[] }, .slice none 0 0, .int .i64 0, .int .i64 0] 35) := ⟨_, rfl⟩
  have k0 : Kept (fun _ => False) w w0 := by rw [hw0]; exact (Kept.refl _ _).alloc _
  obtain ⟨q2, hq2⟩ : ∃ q, q = w.heap.size := ⟨_, rfl⟩
  have hB0 : GB w0 q2 ByteArray.empty (.slice none 0 0) 0 0 := by rw [hw0, hq2]; exact heap_alloc_new w _
  have HW0 := Lib.hid (And.intro hw0 hq2)
  have HQ2 : Hid (w.heap.size ≤ q2) := Lib.hid (by omega)
  have hA : GB (w0.alloc (.cells #[.string name, .slice none 0 0, .int .i64 0, .int .i64 0] 35)) w0.heap.size name (.slice none 0 0) 0 0 := heap_alloc_new w0 _
  have kA : Kept (fun _ => False) w0 (w0.alloc (.cells #[.string name, .slice none 0 0, .int .i64 0, .int .i64 0] 35)) := (Kept.refl _ _).alloc _
  have h24 : q2 < w0.heap.size := (Array.getElem?_eq_some_iff.1 hB0).1
  obtain ⟨w1, hw1⟩ : ∃ w', w' = w0.alloc (.cells #[.string name, .slice none 0 0, .int .i64 0, .int .i64 0] 35) := ⟨_, rfl⟩
  obtain ⟨q4, hq4⟩ : ∃ q, q = w0.heap.size := ⟨_, rfl⟩
  have HW1 := Lib.hid (And.intro hw1 hq4)
  have HG1 : Hid (GB w1 q4 name (.slice none 0 0) 0 0) := Lib.hid (by rw [hw1, hq4]; exact hA)
  have HR1 : Hid (GB w1 q2 ByteArray.empty (.slice none 0 0) 0 0) := Lib.hid (by rw [hw1]; exact hB0.same kA (fun x => x))
  have HK1 : Hid (Kept (fun _ => False) w w1) := Lib.hid (by rw [hw1]; exact k0.trans kA)
  have HQ4 : Hid (w.heap.size ≤ q4 ∧ q2 ≠ q4) := Lib.hid ⟨by omega, by omega⟩
  clear hs hst hno hle hhz hdef hf0 hname hbad hdone hPL hNB hw0 k0 hq2 hB0 hA kA h24 hw1 hq4
  cases NB with
  | false =>
    have HB := Lib.hid (HNO.out HNB.out.symm)
    go_enter Tryd.func16, Tryd.ntmps16
    go_upto_region 1 with fail
    rw [← HW0.out.1, ← HW0.out.2]
    go_wp2_with fail
    refine (HF0.out _).mono ?_
    rintro e w' ⟨rfl, rfl⟩
    go_upto_region 3 with fail
    rw [← HW1.out.1, ← HW1.out.2]
    have hgc := HG1.out.c.1
    go_wp2_with fail
    refine (HN.out _).mono ?_
    rintro e w' ⟨rfl, rfl⟩
    have hb0 := HR1.out.c
    obtain ⟨b0, b1, b2, b3⟩ := hb0
    have f0 := HR1.out.fz 0
    have f1 := HR1.out.fz 1
    have f2 := HR1.out.fz 2
    have f3 := HR1.out.fz 3
    go_wp2
    try simp only [Exit.inBlock, Exit.then]
    refine gotp_end (name := ByteArray.empty) (v := .slice none 0 0) (at_ := 0) (E := 3) Tryd.results16 rfl rfl (HR1.out.set ByteArray.empty (.slice none 0 0) 0 3) ?_
    rw [HB.out]
    exact ⟨_, rfl, MineP.nil (HK1.out.newer (set4_keptG _ _ _ _ _ _) (fun k e => by have := HQ2.out; omega))⟩
  | true =>
    go_enter Tryd.func16, Tryd.ntmps16
    go_upto_region 1 with fail
    rw [← HW0.out.1, ← HW0.out.2]
    go_wp2_with fail
    refine (HF0.out _).mono ?_
    rintro e w' ⟨rfl, rfl⟩
    go_upto_region 3 with fail
    rw [← HW1.out.1, ← HW1.out.2]
    have hgc := HG1.out.c.1
    go_wp2_with fail
    refine (HN.out _).mono ?_
    rintro e w' ⟨rfl, rfl⟩
    clear hgc
    go_wp2
    go_loopg [3] (s.size - f0) (fun g s3 wr => ∃ (i k : Nat) (A : List Pr) (v : Value), g = s.size - i ∧ s3 = .int .i64 i ∧ DP s i k A ∧ MineP w wr v A ∧ GB wr q4 name v 0 0 ∧ GB wr q2 ByteArray.empty (.slice none 0 0) 0 0)
    case atStart => exact ⟨f0, 0, [], _, rfl, rfl, HST.out, MineP.nil HK1.out, HG1.out, HR1.out⟩
    case round =>
      obtain ⟨i, k, A, v, rfl, rfl, hdp, hm, hg, hr⟩ := hrel
      obtain ⟨xa, xc, ev⟩ := hm.slice
      obtain ⟨n, hn⟩ : ∃ n, n = A.length := ⟨_, rfl⟩
      rw [← hn] at ev
      subst ev
      have HDP := Lib.hid hdp
      have HM := Lib.hid hm
      have HG := Lib.hid hg
      have HR := Lib.hid hr
      have HNN := Lib.hid hn
      clear hdp hm hg hr hn
      by_cases hi : i < s.size
      · have hi0 : (i : Int) < (s.size : Int) := by omega
        have hHI := Lib.hid hi
        have wi : IntKind.i64.wrap ((i : Int) + 1) = ((i + 1 : Nat) : Int) := by rw [IntWalk.i64_in _ ⟨by omega, by have := HS.out; omega⟩]; omega
        have hbd := HBAD.out i k A
        have hnx := fun p (h : nextE A (s.extract (i + 1) (findN s (i + 1) 59)) = (p, 0)) => HDP.out.next hi h
        have HFA := Lib.hid fun w => refFind_any s (i + 1) 59 59 rfl (by omega) (by have := HS.out; omega) w
        have hle := findN_le s (i + 1) 59 (by omega)
        obtain ⟨i2, hi2⟩ : ∃ x, x = findN s (i + 1) 59 := ⟨_, rfl⟩
        rw [← hi2] at hbd hnx HFA hle
        obtain ⟨part, hpart⟩ : ∃ p, p = s.extract (i + 1) i2 := ⟨_, rfl⟩
        have cP : ∀ w, (Instr.slice 9 (.string s) (some (.int .i64 ((i + 1 : Nat) : Int))) (some (.int .i64 (i2 : Int))) none).run Tryd.prog w = .ok (.string part) w := fun w => by
          have := run_slice_string (P := Tryd.prog) w 9 s .i64 .i64 ((i + 1 : Nat) : Int) (i2 : Int) Tryd.underlying9 (by omega) (by omega) (by omega); rw [hpart]; simpa using this
        rw [← hpart] at hbd hnx
        have hpz : part.size ≤ 100000 := by rw [hpart]; have := extract_le s (i + 1) i2; have := HS.out; omega
        have hnf := next_find A part
        have HJ := Lib.hid fun w => refFind_any part 0 61 61 rfl (Nat.zero_le _) (by omega) w
        have hjle := (findN_le part 0 61 (Nat.zero_le _)).2
        obtain ⟨j, hj⟩ : ∃ x, x = findN part 0 61 := ⟨_, rfl⟩
        rw [← hj] at hnf HJ hjle
        rw [← HNN.out] at hnf
        have HNF := Lib.hid hnf
        have HBD := Lib.hid (fun p E h1 h2 => hbd p E HDP.out hi h1 h2 HNB.out.symm)
        have HNX := Lib.hid hnx
        have HLE := Lib.hid hle
        have HPZ := Lib.hid hpz
        have HJL := Lib.hid hjle
        obtain ⟨at1, hat1⟩ : ∃ x, x = i + 1 := ⟨_, rfl⟩
        rw [← hat1] at wi HFA cP HBD
        have HA1 := Lib.hid hat1
        have hg1 := HG.out.c.2.1
        clear hi hbd hnx hle hi2 hpart hpz hnf hj hjle hat1
        by_cases h4 : n = 4
        · have q4e : ((n : Int) == 4) = true := beqT (by omega)
          have q4f : (n == 4) = true := by simp [h4]
          have HB := Lib.hid (HBD.out _ _ (HNF.out.trans (if_pos h4)) (by decide))
          clear h4
          go_wp2_with fail
          refine (HFA.out _).mono ?_
          rintro e w' ⟨rfl, rfl⟩
          have hb0 := HR.out.c
          obtain ⟨b0, b1, b2, b3⟩ := hb0
          have f0 := HR.out.fz 0
          have f1 := HR.out.fz 1
          have f2 := HR.out.fz 2
          have f3 := HR.out.fz 3
          go_wp2
          try simp only [Exit.inBlock, Exit.then]
          refine gotp_end (name := ByteArray.empty) (v := .slice none 0 0) (at_ := at1) (E := 4) Tryd.results16 rfl rfl (HR.out.set ByteArray.empty (.slice none 0 0) at1 4) ?_
          rw [HB.out]
          exact ⟨_, rfl, MineP.nil (HM.out.kept.newer (set4_keptG _ _ _ _ _ _) (fun k e => by have := HQ2.out; omega))⟩
        · have q4e : ((n : Int) == 4) = false := beqF (by omega)
          have q4f : (n == 4) = false := by simp [h4]
          have HNF2 := Lib.hid (HNF.out.trans (if_neg h4))
          clear h4
          go_wp2_with fail
          refine (HFA.out _).mono ?_
          rintro e w' ⟨rfl, rfl⟩
          go_wp2_with fail
          refine (HJ.out _).mono ?_
          rintro e w' ⟨rfl, rfl⟩
          by_cases hj : j = part.size
          · have qj : ((j : Int) == (part.size : Int)) = true := beqT (by omega)
            have qj2 : (j == part.size) = true := by simp [hj]
            have HB := Lib.hid (HBD.out _ _ (HNF2.out.trans (if_pos hj)) (by decide))
            clear hj
            have hb0 := HR.out.c
            obtain ⟨b0, b1, b2, b3⟩ := hb0
            have f0 := HR.out.fz 0
            have f1 := HR.out.fz 1
            have f2 := HR.out.fz 2
            have f3 := HR.out.fz 3
            go_wp2
            try simp only [Exit.inBlock, Exit.then]
            refine gotp_end (name := ByteArray.empty) (v := .slice none 0 0) (at_ := at1) (E := 3) Tryd.results16 rfl rfl (HR.out.set ByteArray.empty (.slice none 0 0) at1 3) ?_
            rw [HB.out]
            exact ⟨_, rfl, MineP.nil (HM.out.kept.newer (set4_keptG _ _ _ _ _ _) (fun k e => by have := HQ2.out; omega))⟩
          · have qj : ((j : Int) == (part.size : Int)) = false := beqF (by omega)
            have qj2 : (j == part.size) = false := by simp [hj]
            have HNF3 := Lib.hid (HNF2.out.trans (if_neg hj))
            have hjl := HJL.out
            have hpz := HPZ.out
            have wj : IntKind.i64.wrap ((j : Int) + 1) = ((j + 1 : Nat) : Int) := by rw [IntWalk.i64_in _ ⟨by omega, by omega⟩]; omega
            obtain ⟨key, hkey⟩ : ∃ x, x = part.extract 0 j := ⟨_, rfl⟩
            obtain ⟨val, hval⟩ : ∃ x, x = part.extract (j + 1) part.size := ⟨_, rfl⟩
            have cK : ∀ w, (Instr.slice 9 (.string part) none (some (.int .i64 (j : Int))) none).run Tryd.prog w = .ok (.string key) w := fun w => by
              have := run_slice_string_h (P := Tryd.prog) w 9 part Tryd.underlying9 .i64 (j : Int) (by omega) (by omega); rw [hkey]; simpa using this
            have cV : ∀ w, (Instr.slice 9 (.string part) (some (.int .i64 ((j + 1 : Nat) : Int))) none none).run Tryd.prog w = .ok (.string val) w := fun w => by
              have := run_slice_string_l (P := Tryd.prog) w 9 part Tryd.underlying9 .i64 ((j + 1 : Nat) : Int) (by omega) (by omega); rw [hval]; simpa using this
            rw [← hkey, ← hval] at HNF3
            have HNK := Lib.hid fun w => refName_any key w (by rw [hkey]; have := extract_le part 0 j; omega)
            have HVV := Lib.hid fun w => refValue_any val w (by rw [hval]; have := extract_le part (j + 1) part.size; omega)
            obtain ⟨NB2, hNB2⟩ : ∃ b, b = nameB key := ⟨_, rfl⟩
            obtain ⟨VB2, hVB2⟩ : ∃ b, b = valueB val := ⟨_, rfl⟩
            rw [← hNB2] at HNK HNF3
            rw [← hVB2] at HVV HNF3
            obtain ⟨j1, hj1⟩ : ∃ x, x = j + 1 := ⟨_, rfl⟩
            rw [← hj1] at wj cV
            clear hj hjl hpz hkey hval hNB2 hVB2 hj1
            cases NB2 with
            | false =>
              have HB := Lib.hid (HBD.out _ _ (HNF3.out.trans (if_neg (fun e => by cases e.1))) (by decide))
              go_wp2_with fail
              refine (HNK.out _).mono ?_
              rintro e w' ⟨rfl, rfl⟩
              have hb0 := HR.out.c
              obtain ⟨b0, b1, b2, b3⟩ := hb0
              have f0 := HR.out.fz 0
              have f1 := HR.out.fz 1
              have f2 := HR.out.fz 2
              have f3 := HR.out.fz 3
              go_wp2
              try simp only [Exit.inBlock, Exit.then]
              refine gotp_end (name := ByteArray.empty) (v := .slice none 0 0) (at_ := at1) (E := 3) Tryd.results16 rfl rfl (HR.out.set ByteArray.empty (.slice none 0 0) at1 3) ?_
              rw [HB.out]
              exact ⟨_, rfl, MineP.nil (HM.out.kept.newer (set4_keptG _ _ _ _ _ _) (fun k e => by have := HQ2.out; omega))⟩
            | true =>
              cases VB2 with
              | false =>
                have HB := Lib.hid (HBD.out _ _ (HNF3.out.trans (if_neg (fun e => by cases e.2))) (by decide))
                go_wp2_with fail
                refine (HNK.out _).mono ?_
                rintro e w' ⟨rfl, rfl⟩
                go_wp2_with fail
                refine (HVV.out _).mono ?_
                rintro e w' ⟨rfl, rfl⟩
                have hb0 := HR.out.c
                obtain ⟨b0, b1, b2, b3⟩ := hb0
                have f0 := HR.out.fz 0
                have f1 := HR.out.fz 1
                have f2 := HR.out.fz 2
                have f3 := HR.out.fz 3
                go_wp2
                try simp only [Exit.inBlock, Exit.then]
                refine gotp_end (name := ByteArray.empty) (v := .slice none 0 0) (at_ := at1) (E := 3) Tryd.results16 rfl rfl (HR.out.set ByteArray.empty (.slice none 0 0) at1 3) ?_
                rw [HB.out]
                exact ⟨_, rfl, MineP.nil (HM.out.kept.newer (set4_keptG _ _ _ _ _ _) (fun k e => by have := HQ2.out; omega))⟩
              | true =>
                have HNF4 := Lib.hid (HNF3.out.trans (if_pos ⟨rfl, rfl⟩))
                go_wp2_with fail
                refine (HNK.out _).mono ?_
                rintro e w' ⟨rfl, rfl⟩
                go_wp2_with fail
                refine (HVV.out _).mono ?_
                rintro e w' ⟨rfl, rfl⟩
                go_upto_region 14 with fail
                refine AnyBut.start (S := fun _ => True) (k := 9) (by kernel_rfl) ?_
                refine AnyBut.take (i := 0) (v := ?v38) rfl (by kernel_rfl) (by kernel_rfl) (by kernel_rfl) (by kernel_rfl) (fun _ _ _ h => h) (trivial) (Or.inl ⟨by kernel_rfl, ?hy38⟩) ?r38
                case hy38 =>
                  intro w hSw
                  try dsimp only at hSw
                  go_simp
                  try with_reducible rfl
                try simp only [Act.put, List.getElem_toArray, List.getElem_cons_zero, List.setIfInBounds_toArray, List.set_cons_zero, List.set_cons_succ]
                refine AnyBut.take (i := 1) (v := ?v39) rfl (by kernel_rfl) (by kernel_rfl) (by kernel_rfl) (by kernel_rfl) (fun _ _ _ h => h) (trivial) (Or.inl ⟨by kernel_rfl, ?hy39⟩) ?r39
                case hy39 =>
                  intro w hSw
                  try dsimp only at hSw
                  go_simp
                  try with_reducible rfl
                try simp only [Act.put, List.getElem_toArray, List.getElem_cons_succ, List.getElem_cons_zero, List.setIfInBounds_toArray, List.set_cons_zero, List.set_cons_succ]
                refine AnyBut.take (i := 2) (v := ?v40) rfl (by kernel_rfl) (by kernel_rfl) (by kernel_rfl) (by kernel_rfl) (fun _ _ _ h => h) (trivial) (Or.inl ⟨by kernel_rfl, ?hy40⟩) ?r40
                case hy40 =>
                  intro w hSw
                  try dsimp only at hSw
                  go_simp
                  try with_reducible rfl
                try simp only [Act.put, List.getElem_toArray, List.getElem_cons_succ, List.getElem_cons_zero, List.setIfInBounds_toArray, List.set_cons_zero, List.set_cons_succ]
                refine AnyBut.take (i := 3) (v := ?v41) rfl (by kernel_rfl) (by kernel_rfl) (by kernel_rfl) (by kernel_rfl) (fun _ _ _ h => h) (trivial) (Or.inl ⟨by kernel_rfl, ?hy41⟩) ?r41
                case hy41 =>
                  intro w hSw
                  try dsimp only at hSw
                  go_simp
                  try with_reducible rfl
                try simp only [Act.put, List.getElem_toArray, List.getElem_cons_succ, List.getElem_cons_zero, List.setIfInBounds_toArray, List.set_cons_zero, List.set_cons_succ]
                refine AnyBut.take (i := 4) (v := ?v42) rfl (by kernel_rfl) (by kernel_rfl) (by kernel_rfl) (by kernel_rfl) (fun _ _ _ h => h) (trivial) (Or.inl ⟨by kernel_rfl, ?hy42⟩) ?r42
                case hy42 =>
                  intro w hSw
                  try dsimp only at hSw
                  go_simp
                  try with_reducible rfl
                try simp only [Act.put, List.getElem_toArray, List.getElem_cons_succ, List.getElem_cons_zero, List.setIfInBounds_toArray, List.set_cons_zero, List.set_cons_succ]
                refine AnyBut.take (i := 5) (v := ?v43) rfl (by kernel_rfl) (by kernel_rfl) (by kernel_rfl) (by kernel_rfl) (fun _ _ _ h => h) (trivial) (Or.inl ⟨by kernel_rfl, ?hy43⟩) ?r43
                case hy43 =>
                  intro w hSw
                  try dsimp only at hSw
                  go_simp
                  try with_reducible rfl
                try simp only [Act.put, List.getElem_toArray, List.getElem_cons_succ, List.getElem_cons_zero, List.setIfInBounds_toArray, List.set_cons_zero, List.set_cons_succ]
                refine AnyBut.take (i := 6) (v := ?v44) rfl (by kernel_rfl) (by kernel_rfl) (by kernel_rfl) (by kernel_rfl) (fun _ _ _ h => h) (trivial) (Or.inl ⟨by kernel_rfl, ?hy44⟩) ?r44
                case hy44 =>
                  intro w hSw
                  try dsimp only at hSw
                  go_simp
                  try with_reducible rfl
                try simp only [Act.put, List.getElem_toArray, List.getElem_cons_succ, List.getElem_cons_zero, List.setIfInBounds_toArray, List.set_cons_zero, List.set_cons_succ]
                refine AnyBut.take (i := 7) (v := ?v45) rfl (by kernel_rfl) (by kernel_rfl) (by kernel_rfl) (by kernel_rfl) (fun _ _ _ h => h) (trivial) (Or.inl ⟨by kernel_rfl, ?hy45⟩) ?r45
                case hy45 =>
                  intro w hSw
                  try dsimp only at hSw
                  go_simp
                  try with_reducible rfl
                try simp only [Act.put, List.getElem_toArray, List.getElem_cons_succ, List.getElem_cons_zero, List.setIfInBounds_toArray, List.set_cons_zero, List.set_cons_succ]
                refine AnyBut.one (i := 8) (by kernel_rfl) rfl (fun K hK => ?_)
                go_simp
                refine hK.out _ _ (trivial) ?_
                clear hK K
                try simp only [Act.put, List.getElem_toArray, List.getElem_cons_succ, List.getElem_cons_zero, List.setIfInBounds_toArray, List.set_cons_zero, List.set_cons_succ]
                refine AnyBut.last (by kernel_rfl) rfl (by kernel_rfl) (fun K hK => ?_)
                go_simp
                go_wp2
                refine hK.out _ _ ?_
                clear hK K
                try simp only [Act.put, List.getElem_toArray, List.getElem_cons_succ, List.getElem_cons_zero, List.setIfInBounds_toArray, List.set_cons_zero, List.set_cons_succ]
                obtain ⟨w3, hw3⟩ : ∃ w', w' = (wr.alloc (.cells #[.string key, .string val] 40)).drew := ⟨_, rfl⟩
                obtain ⟨qp, hqp⟩ : ∃ q, q = wr.heap.size := ⟨_, rfl⟩
                rw [← hw3, ← hqp]
                have k3 : Kept (fun _ => False) wr w3 := by rw [hw3]; exact ((Kept.refl _ _).alloc _).drew
                have hb3 : PBox w3 qp ⟨key, val⟩ := by rw [hw3, hqp]; exact heap_alloc_new wr _
                have HM3 := Lib.hid (HM.out.on k3)
                have HG3 := Lib.hid (HG.out.same k3 (fun x => x))
                have HR3 := Lib.hid (HR.out.same k3 (fun x => x))
                have HB3 := Lib.hid hb3
                have hg3 := HG3.out.c.2.1
                clear hw3 hqp k3 hb3 hg1 cP wi
                go_wp2
                go_loopg [9] n (fun g s9 ws => ∃ m : Nat, m ≤ n ∧ g = n - m ∧ s9 = .int .i64 m ∧ hasB (A.take m) key = false ∧ Kept (fun _ => False) w3 ws)
                case atStart => exact ⟨0, Nat.zero_le _, rfl, rfl, rfl, Kept.refl _ _⟩
                case round =>
                  clear hg3
                  obtain ⟨m, hmn, rfl, rfl, hh, kw⟩ := hrel
                  have HH := Lib.hid hh
                  have HK := Lib.hid kw
                  have HKD := Lib.hid kw.drew
                  have hgw := (HG3.out.same kw (fun x => x)).c.2.1
                  have HR4 := Lib.hid (HR3.out.same kw.drew (fun x => x))
                  have HKW := Lib.hid (HM3.out.kept.trans kw.drew)
                  clear hh kw
                  by_cases hm : m < n
                  · have hmi : (m : Int) < (n : Int) := by omega
                    have hm0 : (0 : Int) ≤ (m : Int) := by omega
                    have HMI := Lib.hid hm
                    have hn4 : n ≤ 4 := by rw [HNN.out]; exact HDP.out.few
                    have wm : IntKind.i64.wrap ((m : Int) + 1) = ((m + 1 : Nat) : Int) := by rw [IntWalk.i64_in _ ⟨by omega, by omega⟩]; omega
                    have hmL : m < A.length := by have := HNN.out; omega
                    obtain ⟨ga, oa, rfl, hrec⟩ := HM3.out.at_ (by omega)
                    have e1 := (hrec m A[m] (List.getElem?_eq_getElem hmL)).keptS HKD.out (fun x => x)
                    have ats := any_take_succ (p := fun p => p.k.toList == key.toList) (List.getElem?_eq_getElem hmL)
                    have hmem : A[m] ∈ A := List.getElem_mem _
                    obtain ⟨x, hx⟩ : ∃ p, p = A[m] := ⟨_, rfl⟩
                    rw [← hx] at e1 ats hmem
                    obtain ⟨xk, xv⟩ := x
                    dsimp only at ats
                    obtain ⟨b, hb⟩ : ∃ b, b = (xk.toList == key.toList) := ⟨_, rfl⟩
                    rw [← hb] at ats
                    have HAT := Lib.hid ats
                    have HIN : Hid (b = true → hasB A key = true) := Lib.hid (fun e => List.any_eq_true.2 ⟨_, hmem, by rw [← hb]; exact e⟩)
                    have HSS : Hid ((fun w' => w'.cell? ⟨q4, 1, none⟩ = some (.slice (some ⟨ga, oa, none⟩) n xc) ∧ w'.cell? ⟨ga, oa + m * 2, none⟩ = some (.string xk) ∧ w'.cell? ⟨qp, 0, none⟩ = some (.string key)) wr.drew) := Lib.hid ⟨(HG3.out.same HKD.out (fun x => x)).c.2.1, e1.c0, (cell_of_row _ _ 0 _ _ _ (HB3.out.same HKD.out (fun x => x))).trans rfl⟩
                    replace hb := hb.symm
                    clear hm hmn hn4 hmL hrec e1 ats hmem hx
                    go_upto_region 18 with fail
                    refine AnyBut.start (S := fun w' => w'.cell? ⟨q4, 1, none⟩ = some (.slice (some ⟨ga, oa, none⟩) n xc) ∧ w'.cell? ⟨ga, oa + m * 2, none⟩ = some (.string xk) ∧ w'.cell? ⟨qp, 0, none⟩ = some (.string key)) (k := 9) (by kernel_rfl) ?_
                    refine AnyBut.takeS (i := 0) (v := ?v1) rfl (by kernel_rfl) (Nat.le_of_eq (by kernel_rfl)) (by kernel_rfl) (by kernel_rfl) (fun _ _ _ h => h) (HSS.out) (Or.inl ⟨by kernel_rfl, ?hy1⟩) ?r1
                    case hy1 =>
                      intro w hSw
                      try dsimp only at hSw
                      go_simp
                      try with_reducible rfl
                    try simp only [Act.put, List.getElem_toArray, List.getElem_cons_zero, List.setIfInBounds_toArray, List.set_cons_zero, List.set_cons_succ]
                    refine AnyBut.takeS (i := 1) (v := ?v2) rfl (by kernel_rfl) (Nat.le_of_eq (by kernel_rfl)) (by kernel_rfl) (by kernel_rfl) (fun _ _ _ h => h) (HSS.out) (Or.inl ⟨by kernel_rfl, ?hy2⟩) ?r2
                    case hy2 =>
                      intro w hSw
                      try dsimp only at hSw
                      go_simp
                      try with_reducible rfl
                    try simp only [Act.put, List.getElem_toArray, List.getElem_cons_succ, List.getElem_cons_zero, List.setIfInBounds_toArray, List.set_cons_zero, List.set_cons_succ]
                    refine AnyBut.takeS (i := 2) (v := ?v3) rfl (by kernel_rfl) (Nat.le_of_eq (by kernel_rfl)) (by kernel_rfl) (by kernel_rfl) (fun _ _ _ h => h) (HSS.out) (Or.inl ⟨by kernel_rfl, ?hy3⟩) ?r3
                    case hy3 =>
                      intro w hSw
                      try dsimp only at hSw
                      go_simp
                      try with_reducible rfl
                    try simp only [Act.put, List.getElem_toArray, List.getElem_cons_succ, List.getElem_cons_zero, List.setIfInBounds_toArray, List.set_cons_zero, List.set_cons_succ]
                    refine AnyBut.takeS (i := 3) (v := ?v4) rfl (by kernel_rfl) (Nat.le_of_eq (by kernel_rfl)) (by kernel_rfl) (by kernel_rfl) (fun _ _ _ h => h) (HSS.out) (Or.inl ⟨by kernel_rfl, ?hy4⟩) ?r4
                    case hy4 =>
                      intro w hSw
                      try dsimp only at hSw
                      go_simp
                      try with_reducible rfl
                    try simp only [Act.put, List.getElem_toArray, List.getElem_cons_succ, List.getElem_cons_zero, List.setIfInBounds_toArray, List.set_cons_zero, List.set_cons_succ]
                    refine AnyBut.takeS (i := 4) (v := ?v5) rfl (by kernel_rfl) (Nat.le_of_eq (by kernel_rfl)) (by kernel_rfl) (by kernel_rfl) (fun _ _ _ h => h) (HSS.out) (Or.inl ⟨by kernel_rfl, ?hy5⟩) ?r5
                    case hy5 =>
                      intro w hSw
                      try dsimp only at hSw
                      go_simp
                      try with_reducible rfl
                    try simp only [Act.put, List.getElem_toArray, List.getElem_cons_succ, List.getElem_cons_zero, List.setIfInBounds_toArray, List.set_cons_zero, List.set_cons_succ]
                    refine AnyBut.takeS (i := 5) (v := ?v6) rfl (by kernel_rfl) (Nat.le_of_eq (by kernel_rfl)) (by kernel_rfl) (by kernel_rfl) (fun _ _ _ h => h) (HSS.out) (Or.inl ⟨by kernel_rfl, ?hy6⟩) ?r6
                    case hy6 =>
                      intro w hSw
                      try dsimp only at hSw
                      go_simp
                      try with_reducible rfl
                    try simp only [Act.put, List.getElem_toArray, List.getElem_cons_succ, List.getElem_cons_zero, List.setIfInBounds_toArray, List.set_cons_zero, List.set_cons_succ]
                    refine AnyBut.takeS (i := 6) (v := ?v7) rfl (by kernel_rfl) (Nat.le_of_eq (by kernel_rfl)) (by kernel_rfl) (by kernel_rfl) (fun _ _ _ h => h) (HSS.out) (Or.inl ⟨by kernel_rfl, ?hy7⟩) ?r7
                    case hy7 =>
                      intro w hSw
                      try dsimp only at hSw
                      go_simp
                      try with_reducible rfl
                    try simp only [Act.put, List.getElem_toArray, List.getElem_cons_succ, List.getElem_cons_zero, List.setIfInBounds_toArray, List.set_cons_zero, List.set_cons_succ]
                    refine AnyBut.takeS (i := 7) (v := ?v8) rfl (by kernel_rfl) (Nat.le_of_eq (by kernel_rfl)) (by kernel_rfl) (by kernel_rfl) (fun _ _ _ h => h) (HSS.out) (Or.inl ⟨by kernel_rfl, ?hy8⟩) ?r8
                    case hy8 =>
                      intro w hSw
                      try dsimp only at hSw
                      go_simp
                      try with_reducible rfl
                    try simp only [Act.put, List.getElem_toArray, List.getElem_cons_succ, List.getElem_cons_zero, List.setIfInBounds_toArray, List.set_cons_zero, List.set_cons_succ]
                    refine AnyBut.takeS (i := 8) (v := ?v9) rfl (by kernel_rfl) (Nat.le_of_eq (by kernel_rfl)) (by kernel_rfl) (by kernel_rfl) (fun _ _ _ h => h) (HSS.out) (Or.inl ⟨by kernel_rfl, ?hy9⟩) ?r9
                    case hy9 =>
                      intro w hSw
                      try dsimp only at hSw
                      go_simp
                      try with_reducible rfl
                    try simp only [Act.put, List.getElem_toArray, List.getElem_cons_succ, List.getElem_cons_zero, List.setIfInBounds_toArray, List.set_cons_zero, List.set_cons_succ]
                    refine AnyBut.done (by kernel_rfl) ?_
                    cases b with
                    | true =>
                      have HB := Lib.hid (HBD.out _ _ (HNF4.out.trans (if_pos (HIN.out (by trivial)))) (by decide))
                      obtain ⟨w4, hw4⟩ : ∃ w', w' = wr.drew := ⟨_, rfl⟩
                      rw [← hw4]
                      have HR9 := Lib.hid (show GB w4 q2 ByteArray.empty (.slice none 0 0) 0 0 by rw [hw4]; exact HR4.out)
                      have HKX := Lib.hid (show Kept (fun _ => False) w w4 by rw [hw4]; exact HKW.out)
                      clear hw4
                      have hb0 := HR9.out.c
                      obtain ⟨b0, b1, b2, b3⟩ := hb0
                      have f0 := HR9.out.fz 0
                      have f1 := HR9.out.fz 1
                      have f2 := HR9.out.fz 2
                      have f3 := HR9.out.fz 3
                      go_wp2
                      try simp only [Exit.inBlock, Exit.then]
                      refine gotp_end (name := ByteArray.empty) (v := .slice none 0 0) (at_ := at1) (E := 8) Tryd.results16 rfl rfl (HR9.out.set ByteArray.empty (.slice none 0 0) at1 8) ?_
                      rw [HB.out]
                      exact ⟨_, rfl, MineP.nil (HKX.out.newer (set4_keptG _ _ _ _ _ _) (fun k e => by have := HQ2.out; omega))⟩
                    | false =>
                      go_wp2
                      go_roundg (n - (m + 1))
                      case measure => have := HMI.out; omega
                      case rel => exact ⟨m + 1, HMI.out, rfl, rfl, by show (A.take (m + 1)).any _ = false; rw [HAT.out, Bool.or_false]; exact HH.out, HKD.out⟩
                  · obtain rfl : n = m := by omega
                    have hh := HH.out
                    rw [HNN.out, List.take_length] at hh
                    have HNF5 := Lib.hid (HNF4.out.trans (if_neg (by rw [hh]; decide)))
                    clear hm hmn hh
                    by_cases h0 : 0 < n
                    · have h0i : (0 : Int) < (n : Int) := by omega
                      have h0d : decide (0 < n) = true := decide_eq_true h0
                      have hn4 : n ≤ 4 := by rw [HNN.out]; exact HDP.out.few
                      obtain ⟨n1, hn1⟩ : ∃ k, k = n - 1 := ⟨_, rfl⟩
                      have wn : IntKind.i64.wrap ((n : Int) - 1) = (n1 : Int) := by rw [IntWalk.i64_in _ ⟨by omega, by omega⟩]; omega
                      have hmi : (n1 : Int) < (n : Int) := by omega
                      have hm0 : (0 : Int) ≤ (n1 : Int) := by omega
                      have hmL : n1 < A.length := by have := HNN.out; omega
                      obtain ⟨ga, oa, rfl, hrec⟩ := HM3.out.at_ (by omega)
                      have e1 := (hrec n1 A[n1] (List.getElem?_eq_getElem hmL)).keptS HKD.out (fun x => x)
                      have hgd := getD_pr (List.getElem?_eq_getElem hmL) pr0
                      obtain ⟨x, hx⟩ : ∃ p, p = A[n1] := ⟨_, rfl⟩
                      rw [← hx] at e1 hgd
                      obtain ⟨xk, xv⟩ := x
                      have hnf := HNF5.out
                      rw [show A.getD (n - 1) pr0 = ⟨xk, xv⟩ by rw [← hn1]; exact hgd] at hnf
                      dsimp only at hnf
                      obtain ⟨b, hb⟩ : ∃ b, b = ltS key xk := ⟨_, rfl⟩
                      rw [← hb] at hnf
                      have HNF6 := Lib.hid hnf
                      have hlt : Op.bytesLess key.toList xk.toList = b := hb.symm
                      have HSS : Hid ((fun w' => w'.cell? ⟨q4, 1, none⟩ = some (.slice (some ⟨ga, oa, none⟩) n xc) ∧ w'.cell? ⟨ga, oa + n1 * 2, none⟩ = some (.string xk) ∧ w'.cell? ⟨qp, 0, none⟩ = some (.string key)) wr.drew) := Lib.hid ⟨(HG3.out.same HKD.out (fun x => x)).c.2.1, e1.c0, (cell_of_row _ _ 0 _ _ _ (HB3.out.same HKD.out (fun x => x))).trans rfl⟩
                      have H0 := Lib.hid h0
                      clear h0 hn4 hn1 hmL hrec e1 hgd hx hnf hb
                      go_upto_region 21 with fail
                      refine AnyBut.start (S := fun w' => w'.cell? ⟨q4, 1, none⟩ = some (.slice (some ⟨ga, oa, none⟩) n xc) ∧ w'.cell? ⟨ga, oa + n1 * 2, none⟩ = some (.string xk) ∧ w'.cell? ⟨qp, 0, none⟩ = some (.string key)) (k := 14) (by kernel_rfl) ?_
                      refine AnyBut.takeS (i := 0) (v := ?v10) rfl (by kernel_rfl) (Nat.le_of_eq (by kernel_rfl)) (by kernel_rfl) (by kernel_rfl) (fun _ _ _ h => h) (HSS.out) (Or.inl ⟨by kernel_rfl, ?hy10⟩) ?r10
                      case hy10 =>
                        intro w hSw
                        try dsimp only at hSw
                        go_simp
                        try with_reducible rfl
                      try simp only [Act.put, List.getElem_toArray, List.getElem_cons_zero, List.setIfInBounds_toArray, List.set_cons_zero, List.set_cons_succ]
                      refine AnyBut.takeS (i := 1) (v := ?v11) rfl (by kernel_rfl) (Nat.le_of_eq (by kernel_rfl)) (by kernel_rfl) (by kernel_rfl) (fun _ _ _ h => h) (HSS.out) (Or.inl ⟨by kernel_rfl, ?hy11⟩) ?r11
                      case hy11 =>
                        intro w hSw
                        try dsimp only at hSw
                        go_simp
                        try with_reducible rfl
                      try simp only [Act.put, List.getElem_toArray, List.getElem_cons_succ, List.getElem_cons_zero, List.setIfInBounds_toArray, List.set_cons_zero, List.set_cons_succ]
                      refine AnyBut.takeS (i := 2) (v := ?v12) rfl (by kernel_rfl) (Nat.le_of_eq (by kernel_rfl)) (by kernel_rfl) (by kernel_rfl) (fun _ _ _ h => h) (HSS.out) (Or.inl ⟨by kernel_rfl, ?hy12⟩) ?r12
                      case hy12 =>
                        intro w hSw
                        try dsimp only at hSw
                        go_simp
                        try with_reducible rfl
                      try simp only [Act.put, List.getElem_toArray, List.getElem_cons_succ, List.getElem_cons_zero, List.setIfInBounds_toArray, List.set_cons_zero, List.set_cons_succ]
                      refine AnyBut.takeS (i := 3) (v := ?v13) rfl (by kernel_rfl) (Nat.le_of_eq (by kernel_rfl)) (by kernel_rfl) (by kernel_rfl) (fun _ _ _ h => h) (HSS.out) (Or.inl ⟨by kernel_rfl, ?hy13⟩) ?r13
                      case hy13 =>
                        intro w hSw
                        try dsimp only at hSw
                        go_simp
                        try with_reducible rfl
                      try simp only [Act.put, List.getElem_toArray, List.getElem_cons_succ, List.getElem_cons_zero, List.setIfInBounds_toArray, List.set_cons_zero, List.set_cons_succ]
                      refine AnyBut.takeS (i := 4) (v := ?v14) rfl (by kernel_rfl) (Nat.le_of_eq (by kernel_rfl)) (by kernel_rfl) (by kernel_rfl) (fun _ _ _ h => h) (HSS.out) (Or.inl ⟨by kernel_rfl, ?hy14⟩) ?r14
                      case hy14 =>
                        intro w hSw
                        try dsimp only at hSw
                        go_simp
                        try with_reducible rfl
                      try simp only [Act.put, List.getElem_toArray, List.getElem_cons_succ, List.getElem_cons_zero, List.setIfInBounds_toArray, List.set_cons_zero, List.set_cons_succ]
                      refine AnyBut.takeS (i := 5) (v := ?v15) rfl (by kernel_rfl) (Nat.le_of_eq (by kernel_rfl)) (by kernel_rfl) (by kernel_rfl) (fun _ _ _ h => h) (HSS.out) (Or.inl ⟨by kernel_rfl, ?hy15⟩) ?r15
                      case hy15 =>
                        intro w hSw
                        try dsimp only at hSw
                        go_simp
                        try with_reducible rfl
                      try simp only [Act.put, List.getElem_toArray, List.getElem_cons_succ, List.getElem_cons_zero, List.setIfInBounds_toArray, List.set_cons_zero, List.set_cons_succ]
                      refine AnyBut.takeS (i := 6) (v := ?v16) rfl (by kernel_rfl) (Nat.le_of_eq (by kernel_rfl)) (by kernel_rfl) (by kernel_rfl) (fun _ _ _ h => h) (HSS.out) (Or.inl ⟨by kernel_rfl, ?hy16⟩) ?r16
                      case hy16 =>
                        intro w hSw
                        try dsimp only at hSw
                        go_simp
                        try with_reducible rfl
                      try simp only [Act.put, List.getElem_toArray, List.getElem_cons_succ, List.getElem_cons_zero, List.setIfInBounds_toArray, List.set_cons_zero, List.set_cons_succ]
                      refine AnyBut.takeS (i := 7) (v := ?v17) rfl (by kernel_rfl) (Nat.le_of_eq (by kernel_rfl)) (by kernel_rfl) (by kernel_rfl) (fun _ _ _ h => h) (HSS.out) (Or.inl ⟨by kernel_rfl, ?hy17⟩) ?r17
                      case hy17 =>
                        intro w hSw
                        try dsimp only at hSw
                        go_simp
                        try with_reducible rfl
                      try simp only [Act.put, List.getElem_toArray, List.getElem_cons_succ, List.getElem_cons_zero, List.setIfInBounds_toArray, List.set_cons_zero, List.set_cons_succ]
                      refine AnyBut.takeS (i := 8) (v := ?v18) rfl (by kernel_rfl) (Nat.le_of_eq (by kernel_rfl)) (by kernel_rfl) (by kernel_rfl) (fun _ _ _ h => h) (HSS.out) (Or.inl ⟨by kernel_rfl, ?hy18⟩) ?r18
                      case hy18 =>
                        intro w hSw
                        try dsimp only at hSw
                        go_simp
                        try with_reducible rfl
                      try simp only [Act.put, List.getElem_toArray, List.getElem_cons_succ, List.getElem_cons_zero, List.setIfInBounds_toArray, List.set_cons_zero, List.set_cons_succ]
                      refine AnyBut.takeS (i := 9) (v := ?v19) rfl (by kernel_rfl) (Nat.le_of_eq (by kernel_rfl)) (by kernel_rfl) (by kernel_rfl) (fun _ _ _ h => h) (HSS.out) (Or.inl ⟨by kernel_rfl, ?hy19⟩) ?r19
                      case hy19 =>
                        intro w hSw
                        try dsimp only at hSw
                        go_simp
                        try with_reducible rfl
                      try simp only [Act.put, List.getElem_toArray, List.getElem_cons_succ, List.getElem_cons_zero, List.setIfInBounds_toArray, List.set_cons_zero, List.set_cons_succ]
                      refine AnyBut.takeS (i := 10) (v := ?v20) rfl (by kernel_rfl) (Nat.le_of_eq (by kernel_rfl)) (by kernel_rfl) (by kernel_rfl) (fun _ _ _ h => h) (HSS.out) (Or.inl ⟨by kernel_rfl, ?hy20⟩) ?r20
                      case hy20 =>
                        intro w hSw
                        try dsimp only at hSw
                        go_simp
                        try with_reducible rfl
                      try simp only [Act.put, List.getElem_toArray, List.getElem_cons_succ, List.getElem_cons_zero, List.setIfInBounds_toArray, List.set_cons_zero, List.set_cons_succ]
                      refine AnyBut.takeS (i := 11) (v := ?v21) rfl (by kernel_rfl) (Nat.le_of_eq (by kernel_rfl)) (by kernel_rfl) (by kernel_rfl) (fun _ _ _ h => h) (HSS.out) (Or.inl ⟨by kernel_rfl, ?hy21⟩) ?r21
                      case hy21 =>
                        intro w hSw
                        try dsimp only at hSw
                        go_simp
                        try with_reducible rfl
                      try simp only [Act.put, List.getElem_toArray, List.getElem_cons_succ, List.getElem_cons_zero, List.setIfInBounds_toArray, List.set_cons_zero, List.set_cons_succ]
                      refine AnyBut.takeS (i := 12) (v := ?v22) rfl (by kernel_rfl) (Nat.le_of_eq (by kernel_rfl)) (by kernel_rfl) (by kernel_rfl) (fun _ _ _ h => h) (HSS.out) (Or.inl ⟨by kernel_rfl, ?hy22⟩) ?r22
                      case hy22 =>
                        intro w hSw
                        try dsimp only at hSw
                        go_simp
                        try with_reducible rfl
                      try simp only [Act.put, List.getElem_toArray, List.getElem_cons_succ, List.getElem_cons_zero, List.setIfInBounds_toArray, List.set_cons_zero, List.set_cons_succ]
                      refine AnyBut.takeS (i := 13) (v := ?v23) rfl (by kernel_rfl) (Nat.le_of_eq (by kernel_rfl)) (by kernel_rfl) (by kernel_rfl) (fun _ _ _ h => h) (HSS.out) (Or.inl ⟨by kernel_rfl, ?hy23⟩) ?r23
                      case hy23 =>
                        intro w hSw
                        try dsimp only at hSw
                        go_simp
                        try with_reducible rfl
                      try simp only [Act.put, List.getElem_toArray, List.getElem_cons_succ, List.getElem_cons_zero, List.setIfInBounds_toArray, List.set_cons_zero, List.set_cons_succ]
                      refine AnyBut.done (by kernel_rfl) ?_
                      cases b with
                      | true =>
                        have HB := Lib.hid (HBD.out _ _ (HNF6.out.trans (if_pos ⟨H0.out, by trivial⟩)) (by decide))
                        obtain ⟨w4, hw4⟩ : ∃ w', w' = wr.drew := ⟨_, rfl⟩
                        rw [← hw4]
                        have HR9 := Lib.hid (show GB w4 q2 ByteArray.empty (.slice none 0 0) 0 0 by rw [hw4]; exact HR4.out)
                        have HKX := Lib.hid (show Kept (fun _ => False) w w4 by rw [hw4]; exact HKW.out)
                        clear hw4
                        have hb0 := HR9.out.c
                        obtain ⟨b0, b1, b2, b3⟩ := hb0
                        have f0 := HR9.out.fz 0
                        have f1 := HR9.out.fz 1
                        have f2 := HR9.out.fz 2
                        have f3 := HR9.out.fz 3
                        go_wp2
                        try simp only [Exit.inBlock, Exit.then]
                        refine gotp_end (name := ByteArray.empty) (v := .slice none 0 0) (at_ := at1) (E := 9) Tryd.results16 rfl rfl (HR9.out.set ByteArray.empty (.slice none 0 0) at1 9) ?_
                        rw [HB.out]
                        exact ⟨_, rfl, MineP.nil (HKX.out.newer (set4_keptG _ _ _ _ _ _) (fun k e => by have := HQ2.out; omega))⟩
                      | false =>
                        have HNF7 := Lib.hid (HNF6.out.trans (if_neg (fun e => by cases e.2)))
                        clear hgw
                        obtain ⟨w4, hw4⟩ : ∃ w', w' = wr.drew := ⟨_, rfl⟩
                        rw [← hw4]
                        have k4 : Kept (fun _ => False) w3 w4 := by rw [hw4]; exact HKD.out
                        clear hw4
                        have ke : Kept (fun _ => False) w4 (w4.alloc (.cells #[.string key, .string val] 40)) := (Kept.refl _ _).alloc _
                        have HMe := Lib.hid ((HM3.out.on k4).on ke)
                        have HGe := Lib.hid ((HG3.out.same k4 (fun x => x)).same ke (fun x => x))
                        have HRe := Lib.hid ((HR3.out.same k4 (fun x => x)).same ke (fun x => x))
                        have HSe := Lib.hid (src_oneP w4 ⟨key, val⟩)
                        dsimp only at HSe
                        have g4 := (HG3.out.same k4 (fun x => x)).c.2.1
                        have hb4 := HB3.out.same k4 (fun x => x)
                        have y0 : w4.cell? ⟨qp, 0, none⟩ = some (.string key) := (cell_of_row _ _ 0 _ _ _ hb4).trans rfl
                        have y1 : w4.cell? ⟨qp, 1, none⟩ = some (.string val) := (cell_of_row _ _ 1 _ _ _ hb4).trans rfl
                        clear ke k4 hb4
                        go_wp2_with (at_builtin; refine wpList_mineP rfl (.tmp 110) (.tmp 112) rfl w _ A rfl HMe.out _ [(⟨key, val⟩ : Pr)] 1 rfl rfl HSe.out (by have := HDP.out.few; omega) ?_; intro v5 w5 hm5 hk5; obtain ⟨a5, c5, e5⟩ := hm5.slice; obtain ⟨n5, hn5⟩ : ∃ x, x = (A ++ [(⟨key, val⟩ : Pr)]).length := ⟨_, rfl⟩; rw [← hn5] at e5; subst e5; clear hn5; have HM5 := Lib.hid hm5; have HG5 := Lib.hid (HGe.out.same hk5 (fun e => own_apart HMe.out HGe.out q4 e rfl)); have HR5 := Lib.hid (HRe.out.same hk5 (fun e => own_apart HMe.out HRe.out q2 e rfl)); have gc := HG5.out.c.2.1; have gf := HG5.out.fz 1; clear hm5 hk5 y0 y1 g4)
                        have HKS := Lib.hid ((Kept.refl (fun k => k = q4) w5).setCell (p := ⟨q4, 1, none⟩) (fun _ => rfl) (.slice a5 n5 c5))
                        go_roundg (s.size - i2)
                        case measure => have := HLE.out; have := hHI.out; omega
                        case rel => exact ⟨i2, k + 1, A ++ [(⟨key, val⟩ : Pr)], .slice a5 n5 c5, rfl, rfl, HNX.out _ HNF7.out, HM5.out.keptS HKS.out (fun k e x => own_apart HM5.out HG5.out k e x) (fun k e => by have := HQ4.out; omega), HG5.out.set1 _, HR5.out.same HKS.out (fun e => HQ4.out.2 e)⟩
                    · obtain rfl : n = 0 := by omega
                      have h0i : ¬ (0 : Int) < ((0 : Nat) : Int) := by omega
                      have HNF7 := Lib.hid (HNF5.out.trans (if_neg (fun e => by exact absurd e.1 (by omega))))
                      clear h0
                      go_upto_region 21 with fail
                      refine AnyBut.start (S := fun _ => True) (k := 14) (by kernel_rfl) ?_
                      refine AnyBut.takeS (i := 0) (v := ?v24) rfl (by kernel_rfl) (Nat.le_of_eq (by kernel_rfl)) (by kernel_rfl) (by kernel_rfl) (fun _ _ _ h => h) (trivial) (Or.inl ⟨by kernel_rfl, ?hy24⟩) ?r24
                      case hy24 =>
                        intro w hSw
                        try dsimp only at hSw
                        go_simp
                        try with_reducible rfl
                      try simp only [Act.put, List.getElem_toArray, List.getElem_cons_zero, List.setIfInBounds_toArray, List.set_cons_zero, List.set_cons_succ]
                      refine AnyBut.takeS (i := 1) (v := ?v25) rfl (by kernel_rfl) (Nat.le_of_eq (by kernel_rfl)) (by kernel_rfl) (by kernel_rfl) (fun _ _ _ h => h) (trivial) (Or.inl ⟨by kernel_rfl, ?hy25⟩) ?r25
                      case hy25 =>
                        intro w hSw
                        try dsimp only at hSw
                        go_simp
                        try with_reducible rfl
                      try simp only [Act.put, List.getElem_toArray, List.getElem_cons_succ, List.getElem_cons_zero, List.setIfInBounds_toArray, List.set_cons_zero, List.set_cons_succ]
                      refine AnyBut.takeS (i := 2) (v := ?v26) rfl (by kernel_rfl) (Nat.le_of_eq (by kernel_rfl)) (by kernel_rfl) (by kernel_rfl) (fun _ _ _ h => h) (trivial) (Or.inl ⟨by kernel_rfl, ?hy26⟩) ?r26
                      case hy26 =>
                        intro w hSw
                        try dsimp only at hSw
                        go_simp
                        try with_reducible rfl
                      try simp only [Act.put, List.getElem_toArray, List.getElem_cons_succ, List.getElem_cons_zero, List.setIfInBounds_toArray, List.set_cons_zero, List.set_cons_succ]
                      refine AnyBut.takeS (i := 3) (v := undef) rfl (by kernel_rfl) (Nat.le_of_eq (by kernel_rfl)) (by kernel_rfl) (by kernel_rfl) (fun _ _ _ h => h) (trivial) (Or.inr ⟨by kernel_rfl, rfl⟩) ?r27
                      try simp only [Act.put, List.getElem_toArray, List.getElem_cons_succ, List.getElem_cons_zero, List.setIfInBounds_toArray, List.set_cons_zero, List.set_cons_succ]
                      refine AnyBut.takeS (i := 4) (v := undef) rfl (by kernel_rfl) (Nat.le_of_eq (by kernel_rfl)) (by kernel_rfl) (by kernel_rfl) (fun _ _ _ h => h) (trivial) (Or.inr ⟨by kernel_rfl, rfl⟩) ?r28
                      try simp only [Act.put, List.getElem_toArray, List.getElem_cons_succ, List.getElem_cons_zero, List.setIfInBounds_toArray, List.set_cons_zero, List.set_cons_succ]
                      refine AnyBut.takeS (i := 5) (v := undef) rfl (by kernel_rfl) (Nat.le_of_eq (by kernel_rfl)) (by kernel_rfl) (by kernel_rfl) (fun _ _ _ h => h) (trivial) (Or.inr ⟨by kernel_rfl, rfl⟩) ?r29
                      try simp only [Act.put, List.getElem_toArray, List.getElem_cons_succ, List.getElem_cons_zero, List.setIfInBounds_toArray, List.set_cons_zero, List.set_cons_succ]
                      refine AnyBut.takeS (i := 6) (v := undef) rfl (by kernel_rfl) (Nat.le_of_eq (by kernel_rfl)) (by kernel_rfl) (by kernel_rfl) (fun _ _ _ h => h) (trivial) (Or.inr ⟨by kernel_rfl, rfl⟩) ?r30
                      try simp only [Act.put, List.getElem_toArray, List.getElem_cons_succ, List.getElem_cons_zero, List.setIfInBounds_toArray, List.set_cons_zero, List.set_cons_succ]
                      refine AnyBut.takeS (i := 7) (v := undef) rfl (by kernel_rfl) (Nat.le_of_eq (by kernel_rfl)) (by kernel_rfl) (by kernel_rfl) (fun _ _ _ h => h) (trivial) (Or.inr ⟨by kernel_rfl, rfl⟩) ?r31
                      try simp only [Act.put, List.getElem_toArray, List.getElem_cons_succ, List.getElem_cons_zero, List.setIfInBounds_toArray, List.set_cons_zero, List.set_cons_succ]
                      refine AnyBut.takeS (i := 8) (v := undef) rfl (by kernel_rfl) (Nat.le_of_eq (by kernel_rfl)) (by kernel_rfl) (by kernel_rfl) (fun _ _ _ h => h) (trivial) (Or.inr ⟨by kernel_rfl, rfl⟩) ?r32
                      try simp only [Act.put, List.getElem_toArray, List.getElem_cons_succ, List.getElem_cons_zero, List.setIfInBounds_toArray, List.set_cons_zero, List.set_cons_succ]
                      refine AnyBut.takeS (i := 9) (v := undef) rfl (by kernel_rfl) (Nat.le_of_eq (by kernel_rfl)) (by kernel_rfl) (by kernel_rfl) (fun _ _ _ h => h) (trivial) (Or.inr ⟨by kernel_rfl, rfl⟩) ?r33
                      try simp only [Act.put, List.getElem_toArray, List.getElem_cons_succ, List.getElem_cons_zero, List.setIfInBounds_toArray, List.set_cons_zero, List.set_cons_succ]
                      refine AnyBut.takeS (i := 10) (v := undef) rfl (by kernel_rfl) (Nat.le_of_eq (by kernel_rfl)) (by kernel_rfl) (by kernel_rfl) (fun _ _ _ h => h) (trivial) (Or.inr ⟨by kernel_rfl, rfl⟩) ?r34
                      try simp only [Act.put, List.getElem_toArray, List.getElem_cons_succ, List.getElem_cons_zero, List.setIfInBounds_toArray, List.set_cons_zero, List.set_cons_succ]
                      refine AnyBut.takeS (i := 11) (v := undef) rfl (by kernel_rfl) (Nat.le_of_eq (by kernel_rfl)) (by kernel_rfl) (by kernel_rfl) (fun _ _ _ h => h) (trivial) (Or.inr ⟨by kernel_rfl, rfl⟩) ?r35
                      try simp only [Act.put, List.getElem_toArray, List.getElem_cons_succ, List.getElem_cons_zero, List.setIfInBounds_toArray, List.set_cons_zero, List.set_cons_succ]
                      refine AnyBut.takeS (i := 12) (v := undef) rfl (by kernel_rfl) (Nat.le_of_eq (by kernel_rfl)) (by kernel_rfl) (by kernel_rfl) (fun _ _ _ h => h) (trivial) (Or.inr ⟨by kernel_rfl, rfl⟩) ?r36
                      try simp only [Act.put, List.getElem_toArray, List.getElem_cons_succ, List.getElem_cons_zero, List.setIfInBounds_toArray, List.set_cons_zero, List.set_cons_succ]
                      refine AnyBut.takeS (i := 13) (v := ?v37) rfl (by kernel_rfl) (Nat.le_of_eq (by kernel_rfl)) (by kernel_rfl) (by kernel_rfl) (fun _ _ _ h => h) (trivial) (Or.inl ⟨by kernel_rfl, ?hy37⟩) ?r37
                      case hy37 =>
                        intro w hSw
                        try dsimp only at hSw
                        go_simp
                        try with_reducible rfl
                      try simp only [Act.put, List.getElem_toArray, List.getElem_cons_succ, List.getElem_cons_zero, List.setIfInBounds_toArray, List.set_cons_zero, List.set_cons_succ]
                      refine AnyBut.done (by kernel_rfl) ?_
                      clear hgw
                      obtain ⟨w4, hw4⟩ : ∃ w', w' = wr.drew := ⟨_, rfl⟩
                      rw [← hw4]
                      have k4 : Kept (fun _ => False) w3 w4 := by rw [hw4]; exact HKD.out
                      clear hw4
                      have ke : Kept (fun _ => False) w4 (w4.alloc (.cells #[.string key, .string val] 40)) := (Kept.refl _ _).alloc _
                      have HMe := Lib.hid ((HM3.out.on k4).on ke)
                      have HGe := Lib.hid ((HG3.out.same k4 (fun x => x)).same ke (fun x => x))
                      have HRe := Lib.hid ((HR3.out.same k4 (fun x => x)).same ke (fun x => x))
                      have HSe := Lib.hid (src_oneP w4 ⟨key, val⟩)
                      dsimp only at HSe
                      have g4 := (HG3.out.same k4 (fun x => x)).c.2.1
                      have hb4 := HB3.out.same k4 (fun x => x)
                      have y0 : w4.cell? ⟨qp, 0, none⟩ = some (.string key) := (cell_of_row _ _ 0 _ _ _ hb4).trans rfl
                      have y1 : w4.cell? ⟨qp, 1, none⟩ = some (.string val) := (cell_of_row _ _ 1 _ _ _ hb4).trans rfl
                      clear ke k4 hb4
                      go_wp2_with (at_builtin; refine wpList_mineP rfl (.tmp 110) (.tmp 112) rfl w _ A rfl HMe.out _ [(⟨key, val⟩ : Pr)] 1 rfl rfl HSe.out (by have := HDP.out.few; omega) ?_; intro v5 w5 hm5 hk5; obtain ⟨a5, c5, e5⟩ := hm5.slice; obtain ⟨n5, hn5⟩ : ∃ x, x = (A ++ [(⟨key, val⟩ : Pr)]).length := ⟨_, rfl⟩; rw [← hn5] at e5; subst e5; clear hn5; have HM5 := Lib.hid hm5; have HG5 := Lib.hid (HGe.out.same hk5 (fun e => own_apart HMe.out HGe.out q4 e rfl)); have HR5 := Lib.hid (HRe.out.same hk5 (fun e => own_apart HMe.out HRe.out q2 e rfl)); have gc := HG5.out.c.2.1; have gf := HG5.out.fz 1; clear hm5 hk5 y0 y1 g4)
                      have HKS := Lib.hid ((Kept.refl (fun k => k = q4) w5).setCell (p := ⟨q4, 1, none⟩) (fun _ => rfl) (.slice a5 n5 c5))
                      go_roundg (s.size - i2)
                      case measure => have := HLE.out; have := hHI.out; omega
                      case rel => exact ⟨i2, k + 1, A ++ [(⟨key, val⟩ : Pr)], .slice a5 n5 c5, rfl, rfl, HNX.out _ HNF7.out, HM5.out.keptS HKS.out (fun k e x => own_apart HM5.out HG5.out k e x) (fun k e => by have := HQ4.out; omega), HG5.out.set1 _, HR5.out.same HKS.out (fun e => HQ4.out.2 e)⟩
      · have hi0 : ¬ (i : Int) < (s.size : Int) := by omega
        have HD := Lib.hid (HDONE.out i k A HDP.out hi HNB.out.symm)
        obtain ⟨c0, c1, c2, c3⟩ := HG.out.c
        obtain ⟨b0, b1, b2, b3⟩ := HR.out.c
        have f0 := HR.out.fz 0
        have f1 := HR.out.fz 1
        have f2 := HR.out.fz 2
        have f3 := HR.out.fz 3
        clear hi
        go_wp2
        try simp only [Exit.inBlock, Exit.then]
        refine gotp_end (name := name) (v := .slice xa n xc) (at_ := 0) (E := 0) Tryd.results16 rfl rfl (HR.out.set name (.slice xa n xc) 0 0) ?_
        rw [HD.out]
        exact ⟨_, rfl, HM.out.keptS (set4_keptG _ _ _ _ _ _) (fun k e x => own_apart HM.out HR.out k e x) (fun k e => by have := HQ2.out; omega)⟩
end Go.Proofs.YtkgjkcfjkjkflaaDoor

