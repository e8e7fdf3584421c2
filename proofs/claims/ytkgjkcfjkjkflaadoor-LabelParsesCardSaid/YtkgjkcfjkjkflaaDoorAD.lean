/- Layer 11: the document's Text (written by tools/gen_XAD.py). -/
import Derived.Test.YtkgjkcfjkjkflaaDoorAC
namespace Go.Proofs.YtkgjkcfjkjkflaaDoor
open Go.RowKit
attribute [local go_sem ↓] Go.wp_at_zero Go.wp_at_succ

set_option maxHeartbeats 4000000 in
theorem refText11_any (name : ByteArray) (ao : Option Addr) (c : Nat) (L : List Pr) (w : World) (hr : PsAt w ao L) (hl : L.length ≤ 9223372036854775807) (hz : name.size ≤ 1000) (hs : Sh 1000 L) :
    Calls Tryd.prog 10 #[.string name, .slice ao L.length c] w fun e w' => e = .returned (.tuple #[.string (textT name L).1, .int .i64 ((textT name L).2 : Int)]) ∧ Kept (fun _ => False) w w' := by
  have HC := Lib.hid (refCheck11_any name ao c L w hr hl (by omega) (hs.mono (by omega)))
  have HTT : Hid (textT name L = if checkE name L ≠ 0 then (ByteArray.empty, checkE name L) else (textN name (sortP L) L.length, 0)) := Lib.hid rfl
  have hfew : checkE name L = 0 → L.length ≤ 4 := checkE_few
  obtain ⟨E, hE⟩ : ∃ e, e = checkE name L := ⟨_, rfl⟩
  rw [← hE] at HC HTT hfew
  obtain ⟨n, hn⟩ : ∃ n, n = L.length := ⟨_, rfl⟩
  by_cases h0 : E = 0
  · have HT := Lib.hid (HTT.out.trans (if_neg (fun e => e h0)))
    have h4 := hfew h0
    have HS := Lib.hid fun w' (k : Kept (fun _ => False) w w') => refSorted11_any ao c L w' (hr.kept k) (by omega)
    obtain ⟨M, hM⟩ : ∃ M, M = sortP L := ⟨_, rfl⟩
    have hMl : M.length = n := by rw [hM, sortP_length, hn]
    have hMs : Sh 1000 M := by rw [hM]; exact sh_sort hs
    rw [← hM] at HS HT
    rw [← hn] at HC HS HT h4 ⊢
    have HML := Lib.hid hMl
    have HMS := Lib.hid hMs
    have H4 := Lib.hid h4
    have HZ := Lib.hid hz
    subst h0
    clear hr hl hz hs hE hn hM hMl hMs h4 hfew
    go_enter Tryd.func10, Tryd.ntmps10
    go_wp2_with fail
    refine HC.out.mono ?_
    rintro e w1 ⟨rfl, k1⟩
    have HK1 := Lib.hid k1
    go_wp2_with fail
    refine (HS.out w1 k1).mono ?_
    rintro e w2 ⟨v, rfl, hm⟩
    obtain ⟨xo, co, ev⟩ := hm.slice
    rw [HML.out] at ev
    subst ev
    have HM := Lib.hid hm
    clear k1 hm
    go_wp2
    go_loopg [8, 9] n (fun g s8 s9 wr => ∃ i : Nat, i ≤ n ∧ g = n - i ∧ s9 = .int .i64 i ∧ s8 = .string (textN name M i) ∧ Kept (fun _ => False) w2 wr)
    case atStart => exact ⟨0, Nat.zero_le _, rfl, rfl, rfl, Kept.refl _ _⟩
    case round =>
      obtain ⟨i, hin, rfl, rfl, rfl, kw⟩ := hrel
      have HK := Lib.hid kw
      clear kw
      by_cases hd : i < n
      · have hdi : (i : Int) < (n : Int) := by omega
        have hi0 : (0 : Int) ≤ (i : Int) := by omega
        have HD := Lib.hid hd
        have wi : IntKind.i64.wrap ((i : Int) + 1) = ((i + 1 : Nat) : Int) := by rw [IntWalk.i64_in _ ⟨by omega, by have := H4.out; omega⟩]; omega
        have hiM : i < M.length := by have := HML.out; omega
        obtain ⟨ga, oa, rfl, hrec⟩ := (HM.out.on HK.out).at_ (by omega)
        have e1 := hrec i M[i] (List.getElem?_eq_getElem hiM)
        have g1 := getD_pr (List.getElem?_eq_getElem hiM) pr0
        have hsz := HMS.out _ (List.getElem_mem hiM)
        have hts := textN_size name M i HMS.out (by omega)
        obtain ⟨x, hx⟩ : ∃ p, p = M[i] := ⟨_, rfl⟩
        rw [← hx] at e1 g1 hsz
        obtain ⟨s, hs⟩ : ∃ s, s = textN name M i := ⟨_, rfl⟩
        have HNX := Lib.hid (show textN name M (i + 1) = s ++ partP x by rw [hs]; show textN name M i ++ partP (M.getD i pr0) = _; rw [g1])
        rw [← hs] at hts ⊢
        have hz1 := HZ.out
        have h41 := H4.out
        have h9 : i ≤ 4 := by omega
        have a1 : ∀ w, (Op.stringOp .add s c59).run Tryd.prog w = .ok (.string (s ++ c59)) w := fun w => run_string_add_sum w _ _ (by have : c59.size = 1 := rfl; omega)
        have a2 : ∀ w, (Op.stringOp .add (s ++ c59) x.k).run Tryd.prog w = .ok (.string ((s ++ c59) ++ x.k)) w := fun w => run_string_add_sum w _ _ (by have h1 : c59.size = 1 := rfl; rw [size_append]; omega)
        have a3 : ∀ w, (Op.stringOp .add ((s ++ c59) ++ x.k) c61).run Tryd.prog w = .ok (.string (((s ++ c59) ++ x.k) ++ c61)) w := fun w => run_string_add_sum w _ _ (by have h1 : c59.size = 1 := rfl; have h2 : c61.size = 1 := rfl; rw [size_append, size_append]; omega)
        have a4 : ∀ w, (Op.stringOp .add (((s ++ c59) ++ x.k) ++ c61) x.v).run Tryd.prog w = .ok (.string (s ++ partP x)) w := fun w => by rw [run_string_add_sum w _ _ (by have h1 : c59.size = 1 := rfl; have h2 : c61.size = 1 := rfl; rw [size_append, size_append, size_append]; omega), textN_succ2]
        obtain ⟨pp, hpp⟩ : ∃ p, p = s ++ partP x := ⟨_, rfl⟩
        rw [← hpp] at a4 HNX
        have e2 := e1.keptS ((Kept.refl (fun _ => False) wr).drew) (fun x => x)
        obtain ⟨xk, xv⟩ := x
        dsimp only at a2 a3 a4
        simp only [c59, c61] at a1 a2 a3 a4
        obtain ⟨q1, hq1⟩ : ∃ q, q = s ++ ({ data := #[59] } : ByteArray) := ⟨_, rfl⟩
        rw [← hq1] at a1 a2 a3 a4
        obtain ⟨q2, hq2⟩ : ∃ q, q = q1 ++ xk := ⟨_, rfl⟩
        rw [← hq2] at a2 a3 a4
        obtain ⟨q3, hq3⟩ : ∃ q, q = q2 ++ ({ data := #[61] } : ByteArray) := ⟨_, rfl⟩
        rw [← hq3] at a3 a4
        have HSS : Hid ((fun w' => w'.cell? ⟨ga, oa + i * 2, none⟩ = some (.string xk) ∧ w'.cell? ⟨ga, oa + i * 2 + 1, none⟩ = some (.string xv)) wr.drew) := Lib.hid ⟨e2.c0, e2.c1⟩
        have HK2 := Lib.hid HK.out.drew
        clear e1 e2 hq3
        clear hd hin hiM hrec g1 hsz hts hx hs hz1 h41 h9 hpp hq1 hq2
        go_upto_region 9 with fail
        refine AnyBut.start (S := fun w' => w'.cell? ⟨ga, oa + i * 2, none⟩ = some (.string xk) ∧ w'.cell? ⟨ga, oa + i * 2 + 1, none⟩ = some (.string xv)) (k := 15) (by kernel_rfl) ?_
        refine AnyBut.take (i := 0) (v := ?v1) rfl (by kernel_rfl) (by kernel_rfl) (by kernel_rfl) (by kernel_rfl) (fun _ _ _ h => h) (HSS.out) (Or.inl ⟨by kernel_rfl, ?hy1⟩) ?r1
        case hy1 =>
          intro w hSw
          try dsimp only at hSw
          go_simp
          try with_reducible rfl
        try simp only [Act.put, List.getElem_toArray, List.getElem_cons_zero, List.setIfInBounds_toArray, List.set_cons_zero, List.set_cons_succ]
        refine AnyBut.take (i := 1) (v := ?v2) rfl (by kernel_rfl) (by kernel_rfl) (by kernel_rfl) (by kernel_rfl) (fun _ _ _ h => h) (HSS.out) (Or.inl ⟨by kernel_rfl, ?hy2⟩) ?r2
        case hy2 =>
          intro w hSw
          try dsimp only at hSw
          go_simp
          try with_reducible rfl
        try simp only [Act.put, List.getElem_toArray, List.getElem_cons_succ, List.getElem_cons_zero, List.setIfInBounds_toArray, List.set_cons_zero, List.set_cons_succ]
        refine AnyBut.take (i := 2) (v := ?v3) rfl (by kernel_rfl) (by kernel_rfl) (by kernel_rfl) (by kernel_rfl) (fun _ _ _ h => h) (HSS.out) (Or.inl ⟨by kernel_rfl, ?hy3⟩) ?r3
        case hy3 =>
          intro w hSw
          try dsimp only at hSw
          go_simp
          try with_reducible rfl
        try simp only [Act.put, List.getElem_toArray, List.getElem_cons_succ, List.getElem_cons_zero, List.setIfInBounds_toArray, List.set_cons_zero, List.set_cons_succ]
        refine AnyBut.take (i := 3) (v := ?v4) rfl (by kernel_rfl) (by kernel_rfl) (by kernel_rfl) (by kernel_rfl) (fun _ _ _ h => h) (HSS.out) (Or.inl ⟨by kernel_rfl, ?hy4⟩) ?r4
        case hy4 =>
          intro w hSw
          try dsimp only at hSw
          go_simp
          try with_reducible rfl
        try simp only [Act.put, List.getElem_toArray, List.getElem_cons_succ, List.getElem_cons_zero, List.setIfInBounds_toArray, List.set_cons_zero, List.set_cons_succ]
        refine AnyBut.take (i := 4) (v := ?v5) rfl (by kernel_rfl) (by kernel_rfl) (by kernel_rfl) (by kernel_rfl) (fun _ _ _ h => h) (HSS.out) (Or.inl ⟨by kernel_rfl, ?hy5⟩) ?r5
        case hy5 =>
          intro w hSw
          try dsimp only at hSw
          go_simp
          try with_reducible rfl
        try simp only [Act.put, List.getElem_toArray, List.getElem_cons_succ, List.getElem_cons_zero, List.setIfInBounds_toArray, List.set_cons_zero, List.set_cons_succ]
        refine AnyBut.take (i := 5) (v := ?v6) rfl (by kernel_rfl) (by kernel_rfl) (by kernel_rfl) (by kernel_rfl) (fun _ _ _ h => h) (HSS.out) (Or.inl ⟨by kernel_rfl, ?hy6⟩) ?r6
        case hy6 =>
          intro w hSw
          try dsimp only at hSw
          go_simp
          try with_reducible rfl
        try simp only [Act.put, List.getElem_toArray, List.getElem_cons_succ, List.getElem_cons_zero, List.setIfInBounds_toArray, List.set_cons_zero, List.set_cons_succ]
        refine AnyBut.take (i := 6) (v := ?v7) rfl (by kernel_rfl) (by kernel_rfl) (by kernel_rfl) (by kernel_rfl) (fun _ _ _ h => h) (HSS.out) (Or.inl ⟨by kernel_rfl, ?hy7⟩) ?r7
        case hy7 =>
          intro w hSw
          try dsimp only at hSw
          go_simp
          try with_reducible rfl
        try simp only [Act.put, List.getElem_toArray, List.getElem_cons_succ, List.getElem_cons_zero, List.setIfInBounds_toArray, List.set_cons_zero, List.set_cons_succ]
        refine AnyBut.take (i := 7) (v := ?v8) rfl (by kernel_rfl) (by kernel_rfl) (by kernel_rfl) (by kernel_rfl) (fun _ _ _ h => h) (HSS.out) (Or.inl ⟨by kernel_rfl, ?hy8⟩) ?r8
        case hy8 =>
          intro w hSw
          try dsimp only at hSw
          go_simp
          try with_reducible rfl
        try simp only [Act.put, List.getElem_toArray, List.getElem_cons_succ, List.getElem_cons_zero, List.setIfInBounds_toArray, List.set_cons_zero, List.set_cons_succ]
        refine AnyBut.take (i := 8) (v := ?v9) rfl (by kernel_rfl) (by kernel_rfl) (by kernel_rfl) (by kernel_rfl) (fun _ _ _ h => h) (HSS.out) (Or.inl ⟨by kernel_rfl, ?hy9⟩) ?r9
        case hy9 =>
          intro w hSw
          try dsimp only at hSw
          go_simp
          try with_reducible rfl
        try simp only [Act.put, List.getElem_toArray, List.getElem_cons_succ, List.getElem_cons_zero, List.setIfInBounds_toArray, List.set_cons_zero, List.set_cons_succ]
        refine AnyBut.take (i := 9) (v := ?v10) rfl (by kernel_rfl) (by kernel_rfl) (by kernel_rfl) (by kernel_rfl) (fun _ _ _ h => h) (HSS.out) (Or.inl ⟨by kernel_rfl, ?hy10⟩) ?r10
        case hy10 =>
          intro w hSw
          try dsimp only at hSw
          go_simp
          try with_reducible rfl
        try simp only [Act.put, List.getElem_toArray, List.getElem_cons_succ, List.getElem_cons_zero, List.setIfInBounds_toArray, List.set_cons_zero, List.set_cons_succ]
        refine AnyBut.take (i := 10) (v := ?v11) rfl (by kernel_rfl) (by kernel_rfl) (by kernel_rfl) (by kernel_rfl) (fun _ _ _ h => h) (HSS.out) (Or.inl ⟨by kernel_rfl, ?hy11⟩) ?r11
        case hy11 =>
          intro w hSw
          try dsimp only at hSw
          go_simp
          try with_reducible rfl
        try simp only [Act.put, List.getElem_toArray, List.getElem_cons_succ, List.getElem_cons_zero, List.setIfInBounds_toArray, List.set_cons_zero, List.set_cons_succ]
        refine AnyBut.take (i := 11) (v := ?v12) rfl (by kernel_rfl) (by kernel_rfl) (by kernel_rfl) (by kernel_rfl) (fun _ _ _ h => h) (HSS.out) (Or.inl ⟨by kernel_rfl, ?hy12⟩) ?r12
        case hy12 =>
          intro w hSw
          try dsimp only at hSw
          go_simp
          try with_reducible rfl
        try simp only [Act.put, List.getElem_toArray, List.getElem_cons_succ, List.getElem_cons_zero, List.setIfInBounds_toArray, List.set_cons_zero, List.set_cons_succ]
        refine AnyBut.take (i := 12) (v := ?v13) rfl (by kernel_rfl) (by kernel_rfl) (by kernel_rfl) (by kernel_rfl) (fun _ _ _ h => h) (HSS.out) (Or.inl ⟨by kernel_rfl, ?hy13⟩) ?r13
        case hy13 =>
          intro w hSw
          try dsimp only at hSw
          go_simp
          try with_reducible rfl
        try simp only [Act.put, List.getElem_toArray, List.getElem_cons_succ, List.getElem_cons_zero, List.setIfInBounds_toArray, List.set_cons_zero, List.set_cons_succ]
        refine AnyBut.take (i := 13) (v := ?v14) rfl (by kernel_rfl) (by kernel_rfl) (by kernel_rfl) (by kernel_rfl) (fun _ _ _ h => h) (HSS.out) (Or.inl ⟨by kernel_rfl, ?hy14⟩) ?r14
        case hy14 =>
          intro w hSw
          try dsimp only at hSw
          go_simp
          try with_reducible rfl
        try simp only [Act.put, List.getElem_toArray, List.getElem_cons_succ, List.getElem_cons_zero, List.setIfInBounds_toArray, List.set_cons_zero, List.set_cons_succ]
        refine AnyBut.take (i := 14) (v := ?v15) rfl (by kernel_rfl) (by kernel_rfl) (by kernel_rfl) (by kernel_rfl) (fun _ _ _ h => h) (HSS.out) (Or.inl ⟨by kernel_rfl, ?hy15⟩) ?r15
        case hy15 =>
          intro w hSw
          try dsimp only at hSw
          go_simp
          try with_reducible rfl
        try simp only [Act.put, List.getElem_toArray, List.getElem_cons_succ, List.getElem_cons_zero, List.setIfInBounds_toArray, List.set_cons_zero, List.set_cons_succ]
        refine AnyBut.last (by kernel_rfl) rfl (by kernel_rfl) (fun K hK => ?_)
        go_simp
        refine hK.out _ _ ?_
        clear hK K
        try simp only [Act.put, List.getElem_toArray, List.getElem_cons_succ, List.getElem_cons_zero, List.setIfInBounds_toArray, List.set_cons_zero, List.set_cons_succ]
        go_wp2
        go_roundg (n - (i + 1))
        case measure => have := HD.out; omega
        case rel => exact ⟨i + 1, HD.out, rfl, rfl, by rw [HNX.out], HK2.out⟩
      · obtain rfl : n = i := by omega
        have HF := Lib.hid HT.out
        clear hd
        go_wp2
        go_ret2
        exact ⟨by rw [HF.out]; rfl, (HK1.out.trans HM.out.kept).trans HK.out⟩
  · have HT := Lib.hid (HTT.out.trans (if_pos h0))
    have qE : ((E : Int) != 0) = true := bneT (by omega)
    rw [← hn] at HC ⊢
    clear hr hl hz hs hE hn h0 hfew
    go_enter Tryd.func10, Tryd.ntmps10
    go_wp2_with fail
    refine HC.out.mono ?_
    rintro e w1 ⟨rfl, k1⟩
    go_wp2
    go_ret2
    exact ⟨by rw [HT.out]; rfl, k1⟩
end Go.Proofs.YtkgjkcfjkjkflaaDoor
