/- Layer 34: the walk of SymtabOpens (written by tools/gen_XTP.py). -/
import Derived.Test.YtkidbbmdlmnokaaTN
namespace Go.Proofs.Ytkidbbmdlmnokaa
open Go.RowKit
attribute [local go_sem ↓] Go.wp_at_zero Go.wp_at_succ
/-- What opens has so few texts. -/
theorem open_few {l : List Int} {L : List ByteArray} (hb : ∀ x ∈ l, 0 ≤ x ∧ x < 256) (h : openS l = (0, L)) : L.length ≤ 4096 ∧ ∀ s ∈ L, s.size ≤ 400 := by
  have h1 := build_open hb h
  have h2 := build_ok (L := L) (by rw [h1])
  exact ⟨h2.1, h2.2.1⟩
set_option maxHeartbeats 8000000 in
set_option maxRecDepth 100000 in
theorem symtabOpens_walk (ab : Option Addr) (len cb : Nat) (zs : List Int) (W : World) (h : IsRow .u8 W ab len cb zs) :
    Calls Try.prog 7 #[.slice ab len cb] W fun e w' => e = .returned (.bool true) ∧ Kept (fun _ => False) W w' := by
  obtain ⟨l, hll, hv, hcb, hb⟩ := h.bytes
  have HA := Lib.hid (awake34_any W)
  have HLL := Lib.hid hll
  clear h
  by_cases h1000 : 1000 < len
  · have q1 : (1000 : Int) < (len : Int) := by omega
    have q1' : decide (1000 < len) = true := decide_eq_true h1000
    clear hll hv hcb hb h1000
    go_enter Try.func7, Try.ntmps7
    go_wp2_with fail
    refine HA.out.mono ?_
    rintro e w1 ⟨rfl, k1⟩
    have HK1 := Lib.hid k1
    clear k1
    go_wp2
    go_ret
    exact ⟨rfl, HK1.out⟩
  have q1 : ¬ (1000 : Int) < (len : Int) := by omega
  have q1' : decide (1000 < len) = false := decide_eq_false h1000
  have HO : Hid (∀ w, Kept (fun _ => False) W w → Calls Try.prog 34 #[.slice ab len cb] w fun e w' => OpenTo w (openS l) e w') := Lib.hid (fun w k => open_any _ ab cb l w (by subst hll; exact hv.kept k (fun _ _ x => x)) (by omega) hb)
  have HRO : Hid (∀ w, Kept (fun _ => False) W w → Calls Try.prog 38 #[.slice ab len cb] w fun e w' => DocTo w (openS l) e w') := Lib.hid (fun w k => by subst hll; exact ropen_any ab cb l w (hv.kept k (fun _ _ x => x)) (by omega) hcb hb)
  have HCV : Hid (∀ w, Kept (fun _ => False) W w → (convert 27 9 (.slice ab len cb)).run Try.prog w = .ok (.string (strOfNums l)) w) := Lib.hid (fun w k => run_strI (by subst hll; exact (hv.kept k (fun _ _ x => x)).slAt) 27 5 9 Try.underlying27 Try.underlying5 Try.underlying9)
  have HBO := Lib.hid (fun (L : List ByteArray) (h : openS l = (0, L)) => And.intro (build_open hb h) (open_few hb h))
  obtain ⟨m, hm⟩ : ∃ m, m = len := ⟨_, rfl⟩
  rw [← hm] at HO HRO HCV q1 q1' ⊢
  obtain ⟨R, hR⟩ : ∃ R, R = openS l := ⟨_, rfl⟩
  rw [← hR] at HO HRO
  have HR := Lib.hid hR
  obtain ⟨E, L⟩ := R
  clear hll hv hcb hb h1000 hm hR
  go_enter Try.func7, Try.ntmps7
  go_wp2_with fail
  refine HA.out.mono ?_
  rintro e w1 ⟨rfl, k1⟩
  have HK1 := Lib.hid k1
  clear k1
  go_wp2_with fail
  refine (HO.out w1 HK1.out).mono ?_
  rintro e w2 ⟨k2, hbad, hgood⟩
  have HK2 := Lib.hid (HK1.out.trans k2)
  dsimp only at hbad hgood
  clear k2
  by_cases he : E = 0
  · obtain ⟨tb, rfl, ht, _⟩ := hgood he
    have HT := Lib.hid ht
    clear hbad hgood ht
    subst he
    have HOS : Hid (openS l = (0, L)) := Lib.hid HR.out.symm
    go_wp2_with fail
    refine (HRO.out w2 HK2.out).mono ?_
    intro e w3 hdoc
    obtain ⟨vr, he3, hmr⟩ := (show ∃ v, e = .returned (.agg #[v, .int .i64 0]) ∧ Mine w2 w3 9 v (strs L) from hdoc)
    subst he3
    clear hdoc
    obtain ⟨ar, cr, rfl⟩ := hmr.slice
    rw [strs_length] at hmr ⊢
    obtain ⟨n, hn⟩ : ∃ n, n = L.length := ⟨_, rfl⟩
    rw [← hn] at hmr ⊢
    have HN := Lib.hid hn
    obtain ⟨w4, hw4⟩ : ∃ w4, w4 = w3.alloc (.cells #[.slice ar n cr, .int .i64 0] 59) := ⟨_, rfl⟩
    obtain ⟨gq, hgq⟩ : ∃ g, g = w3.heap.size := ⟨_, rfl⟩
    have k34 : Kept (fun _ => False) w3 w4 := by rw [hw4]; exact (Kept.refl _ _).alloc _
    have HG4 : Hid (RB34 w4 gq (.slice ar n cr) 0) := Lib.hid (by rw [hw4, hgq]; exact heap_alloc_new w3 _)
    have HW4 := Lib.hid (And.intro hw4 hgq)
    have HK4 := Lib.hid (HK2.out.trans (hmr.kept.trans k34))
    have HT4 := Lib.hid (HT.out.kept (hmr.kept.trans k34))
    have HS4 : Hid (SlAt w4 (.slice ar n cr) (strs L)) := Lib.hid ((hmr.on k34).at_)
    clear hmr hw4 hgq k34 hn
    go_upto_region 7 with fail
    rw [← HW4.out.1, ← HW4.out.2]
    obtain ⟨g0, g1⟩ := HG4.out.c
    have HTA := Lib.hid (fun w (k : Kept (fun _ => False) w4 w) => tall_any tb L w (HT4.out.kept k) (by have := (HBO.out L HOS.out).2.1; omega))
    go_wp2_with fail
    refine (HTA.out w4 (Kept.refl _ _)).mono ?_
    rintro e w5 ⟨v5, rfl, hm5⟩
    obtain ⟨a5, c5, rfl⟩ := hm5.slice
    rw [strs_length] at hm5 ⊢
    have HB5 := Lib.hid (build_any a5 c5 L w5 hm5.at_ (by have := (HBO.out L HOS.out).2.1; omega) (fun s hs => by have := (HBO.out L HOS.out).2.2 s hs; omega))
    rw [(HBO.out L HOS.out).1] at HB5
    have HK45 := Lib.hid hm5.kept
    clear hm5 g0 g1
    go_wp2_with fail
    refine HB5.out.mono ?_
    rintro e w6 ⟨v6, rfl, ho6, k6⟩
    dsimp only at ho6 ⊢
    have HK46 := Lib.hid (HK45.out.trans k6)
    have HO6 := Lib.hid ho6
    clear ho6 k6
    obtain ⟨x, hx⟩ : ∃ x, x = strOfNums l := ⟨_, rfl⟩
    rw [← hx] at HCV
    have HX := Lib.hid hx
    have qx : (x.toList == x.toList) = true := by simp
    clear hx
    go_upto_region 12 with fail
    obtain ⟨wd, hwd⟩ : ∃ w', w' = w6.drew := ⟨_, rfl⟩
    have HKD : Hid (Kept (fun _ => False) w6 wd) := Lib.hid (by rw [hwd]; exact (Kept.refl _ _).drew)
    have HK4D := Lib.hid (HK46.out.trans HKD.out)
    have HMV : Hid (∀ w, Kept (fun _ => False) wd w → (fun w' => (w'.cell? ⟨gq, 0, none⟩ = some (.slice ar n cr) ∧ (convert 27 9 v6).run Try.prog w' = .ok (.string x) w' ∧ (convert 27 9 (.slice ab m cb)).run Try.prog w' = .ok (.string x) w') ∧ Kept (fun _ => False) wd w') w) := Lib.hid (fun w k => ⟨⟨((HG4.out : RB34 _ _ _ _) |> fun b => (show RB34 w gq (.slice ar n cr) 0 from (HK4D.out.trans k).same b (fun x => x))).c.1,
      by rw [HX.out]; exact run_str_own ((HKD.out.trans k).owns HO6.out (fun _ _ x => x)) 27 5 9 Try.underlying27 Try.underlying5 Try.underlying9,
      HCV.out w (HK4.out.trans (HK4D.out.trans k))⟩, k⟩)
    have HSS : Hid ((fun w' => (w'.cell? ⟨gq, 0, none⟩ = some (.slice ar n cr) ∧ (convert 27 9 v6).run Try.prog w' = .ok (.string x) w' ∧ (convert 27 9 (.slice ab m cb)).run Try.prog w' = .ok (.string x) w') ∧ Kept (fun _ => False) wd w') w6.drew) := Lib.hid (by rw [← hwd]; exact HMV.out wd (Kept.refl _ _))
    have HTA2 : Hid (∀ w, Kept (fun _ => False) wd w → Calls Try.prog 37 #[.pointer (some ⟨tb, 0, none⟩)] w fun e w' => ∃ v, e = .returned v ∧ Mine w w' 9 v (strs L)) := Lib.hid (fun w k => HTA.out w (HK4D.out.trans k))
    have HSM : Hid (∀ w a7 c7, SlAt w (.slice a7 n c7) (strs L) → Kept (fun _ => False) wd w → Calls Try.prog 36 #[.slice a7 n c7, .slice ar n cr] w fun e w' => e = .returned (.bool true) ∧ Kept (fun _ => False) w w') := Lib.hid (fun w a7 c7 h k => by
      have := same34_any a7 ar c7 cr L L w (by rw [← HN.out]; exact h) (by rw [← HN.out]; exact (HS4.out.kept (HK4D.out.trans k) (fun _ _ x => x))) (by have := (HBO.out L HOS.out).2.1; omega)
      rw [show sameS L L = true from decide_eq_true rfl, ← HN.out] at this
      exact this)
    clear HTA
    have HTA := HTA2
    clear HTA2 hwd
    refine AnyBut.start (S := fun w' => (w'.cell? ⟨gq, 0, none⟩ = some (.slice ar n cr) ∧ (convert 27 9 v6).run Try.prog w' = .ok (.string x) w' ∧ (convert 27 9 (.slice ab m cb)).run Try.prog w' = .ok (.string x) w') ∧ Kept (fun _ => False) wd w') (k := 16) (by kernel_rfl) ?_
    refine AnyBut.take (i := 0) (v := ?v1) rfl (by kernel_rfl) (by kernel_rfl) (by kernel_rfl) (by kernel_rfl) (fun _ _ _ h => h) (HSS.out) (Or.inl ⟨by kernel_rfl, ?hy1⟩) ?r1
    case hy1 =>
      intro w hSw
      try dsimp only at hSw
      go_simp
      try with_reducible rfl
    try simp only [Act.put, List.getElem_toArray, List.getElem_cons_zero, List.setIfInBounds_toArray, List.set_cons_zero, List.set_cons_succ]
    refine AnyBut.take (i := 2) (v := ?v2) rfl (by kernel_rfl) (by kernel_rfl) (by kernel_rfl) (by kernel_rfl) (fun _ _ _ h => h) (HSS.out) (Or.inl ⟨by kernel_rfl, ?hy2⟩) ?r2
    case hy2 =>
      intro w hSw
      try dsimp only at hSw
      go_simp
      try with_reducible rfl
    try simp only [Act.put, List.getElem_toArray, List.getElem_cons_succ, List.getElem_cons_zero, List.setIfInBounds_toArray, List.set_cons_zero, List.set_cons_succ]
    refine AnyBut.take (i := 3) (v := ?v3) rfl (by kernel_rfl) (by kernel_rfl) (by kernel_rfl) (by kernel_rfl) (fun _ _ _ h => h) (HSS.out) (Or.inl ⟨by kernel_rfl, ?hy3⟩) ?r3
    case hy3 =>
      intro w hSw
      try dsimp only at hSw
      go_simp
      try with_reducible rfl
    try simp only [Act.put, List.getElem_toArray, List.getElem_cons_succ, List.getElem_cons_zero, List.setIfInBounds_toArray, List.set_cons_zero, List.set_cons_succ]
    refine AnyBut.one (i := 1) (by kernel_rfl) rfl (fun K hK => ?_)
    go_simp
    go_wp2_with fail
    refine (HTA.out _ HSS.out.2).mono ?_
    rintro e w9 ⟨v7, rfl, hm⟩
    obtain ⟨a7, c7, rfl⟩ := hm.slice
    rw [strs_length] at hm ⊢
    rw [← HN.out] at hm ⊢
    have HM7 := Lib.hid hm
    have HSS9 := Lib.hid (HMV.out w9 (HSS.out.2.trans hm.kept))
    clear hm
    go_wp2
    refine hK.out _ _ (HSS9.out) ?_
    clear hK K
    try simp only [Act.put, List.getElem_toArray, List.getElem_cons_succ, List.getElem_cons_zero, List.setIfInBounds_toArray, List.set_cons_zero, List.set_cons_succ]
    refine AnyBut.one (i := 4) (by kernel_rfl) rfl (fun K hK => ?_)
    go_simp
    go_wp2_with fail
    refine (HSM.out w9 a7 c7 HM7.out.at_ HSS9.out.2).mono ?_
    rintro e w10 ⟨rfl, k10⟩
    have HSS10 := Lib.hid (HMV.out w10 (HSS9.out.2.trans k10))
    clear k10
    go_wp2
    refine hK.out _ _ (HSS10.out) ?_
    clear hK K
    try simp only [Act.put, List.getElem_toArray, List.getElem_cons_succ, List.getElem_cons_zero, List.setIfInBounds_toArray, List.set_cons_zero, List.set_cons_succ]
    refine AnyBut.take (i := 5) (v := ?v4) rfl (by kernel_rfl) (by kernel_rfl) (by kernel_rfl) (by kernel_rfl) (fun _ _ _ h => h) (HSS10.out) (Or.inl ⟨by kernel_rfl, ?hy4⟩) ?r4
    case hy4 =>
      intro w hSw
      try dsimp only at hSw
      go_simp
      try with_reducible rfl
    try simp only [Act.put, List.getElem_toArray, List.getElem_cons_succ, List.getElem_cons_zero, List.setIfInBounds_toArray, List.set_cons_zero, List.set_cons_succ]
    refine AnyBut.take (i := 6) (v := ?v5) rfl (by kernel_rfl) (by kernel_rfl) (by kernel_rfl) (by kernel_rfl) (fun _ _ _ h => h) (HSS10.out) (Or.inl ⟨by kernel_rfl, ?hy5⟩) ?r5
    case hy5 =>
      intro w hSw
      try dsimp only at hSw
      go_simp
      try with_reducible rfl
    try simp only [Act.put, List.getElem_toArray, List.getElem_cons_succ, List.getElem_cons_zero, List.setIfInBounds_toArray, List.set_cons_zero, List.set_cons_succ]
    refine AnyBut.take (i := 7) (v := ?v6) rfl (by kernel_rfl) (by kernel_rfl) (by kernel_rfl) (by kernel_rfl) (fun _ _ _ h => h) (HSS10.out) (Or.inl ⟨by kernel_rfl, ?hy6⟩) ?r6
    case hy6 =>
      intro w hSw
      try dsimp only at hSw
      go_simp
      try with_reducible rfl
    try simp only [Act.put, List.getElem_toArray, List.getElem_cons_succ, List.getElem_cons_zero, List.setIfInBounds_toArray, List.set_cons_zero, List.set_cons_succ]
    refine AnyBut.take (i := 8) (v := ?v7) rfl (by kernel_rfl) (by kernel_rfl) (by kernel_rfl) (by kernel_rfl) (fun _ _ _ h => h) (HSS10.out) (Or.inl ⟨by kernel_rfl, ?hy7⟩) ?r7
    case hy7 =>
      intro w hSw
      try dsimp only at hSw
      go_simp
      try with_reducible rfl
    try simp only [Act.put, List.getElem_toArray, List.getElem_cons_succ, List.getElem_cons_zero, List.setIfInBounds_toArray, List.set_cons_zero, List.set_cons_succ]
    refine AnyBut.take (i := 9) (v := ?v8) rfl (by kernel_rfl) (by kernel_rfl) (by kernel_rfl) (by kernel_rfl) (fun _ _ _ h => h) (HSS10.out) (Or.inl ⟨by kernel_rfl, ?hy8⟩) ?r8
    case hy8 =>
      intro w hSw
      try dsimp only at hSw
      go_simp
      try with_reducible rfl
    try simp only [Act.put, List.getElem_toArray, List.getElem_cons_succ, List.getElem_cons_zero, List.setIfInBounds_toArray, List.set_cons_zero, List.set_cons_succ]
    refine AnyBut.take (i := 10) (v := ?v9) rfl (by kernel_rfl) (by kernel_rfl) (by kernel_rfl) (by kernel_rfl) (fun _ _ _ h => h) (HSS10.out) (Or.inl ⟨by kernel_rfl, ?hy9⟩) ?r9
    case hy9 =>
      intro w hSw
      try dsimp only at hSw
      go_simp
      try with_reducible rfl
    try simp only [Act.put, List.getElem_toArray, List.getElem_cons_succ, List.getElem_cons_zero, List.setIfInBounds_toArray, List.set_cons_zero, List.set_cons_succ]
    refine AnyBut.take (i := 11) (v := ?v10) rfl (by kernel_rfl) (by kernel_rfl) (by kernel_rfl) (by kernel_rfl) (fun _ _ _ h => h) (HSS10.out) (Or.inl ⟨by kernel_rfl, ?hy10⟩) ?r10
    case hy10 =>
      intro w hSw
      try dsimp only at hSw
      go_simp
      try with_reducible rfl
    try simp only [Act.put, List.getElem_toArray, List.getElem_cons_succ, List.getElem_cons_zero, List.setIfInBounds_toArray, List.set_cons_zero, List.set_cons_succ]
    refine AnyBut.take (i := 12) (v := ?v11) rfl (by kernel_rfl) (by kernel_rfl) (by kernel_rfl) (by kernel_rfl) (fun _ _ _ h => h) (HSS10.out) (Or.inl ⟨by kernel_rfl, ?hy11⟩) ?r11
    case hy11 =>
      intro w hSw
      try dsimp only at hSw
      go_simp
      try with_reducible rfl
    try simp only [Act.put, List.getElem_toArray, List.getElem_cons_succ, List.getElem_cons_zero, List.setIfInBounds_toArray, List.set_cons_zero, List.set_cons_succ]
    refine AnyBut.take (i := 13) (v := ?v12) rfl (by kernel_rfl) (by kernel_rfl) (by kernel_rfl) (by kernel_rfl) (fun _ _ _ h => h) (HSS10.out) (Or.inl ⟨by kernel_rfl, ?hy12⟩) ?r12
    case hy12 =>
      intro w hSw
      try dsimp only at hSw
      go_simp
      try with_reducible rfl
    try simp only [Act.put, List.getElem_toArray, List.getElem_cons_succ, List.getElem_cons_zero, List.setIfInBounds_toArray, List.set_cons_zero, List.set_cons_succ]
    refine AnyBut.take (i := 14) (v := ?v13) rfl (by kernel_rfl) (by kernel_rfl) (by kernel_rfl) (by kernel_rfl) (fun _ _ _ h => h) (HSS10.out) (Or.inl ⟨by kernel_rfl, ?hy13⟩) ?r13
    case hy13 =>
      intro w hSw
      try dsimp only at hSw
      go_simp
      try with_reducible rfl
    try simp only [Act.put, List.getElem_toArray, List.getElem_cons_succ, List.getElem_cons_zero, List.setIfInBounds_toArray, List.set_cons_zero, List.set_cons_succ]
    refine AnyBut.take (i := 15) (v := ?v14) rfl (by kernel_rfl) (by kernel_rfl) (by kernel_rfl) (by kernel_rfl) (fun _ _ _ h => h) (HSS10.out) (Or.inl ⟨by kernel_rfl, ?hy14⟩) ?r14
    case hy14 =>
      intro w hSw
      try dsimp only at hSw
      go_simp
      try with_reducible rfl
    try simp only [Act.put, List.getElem_toArray, List.getElem_cons_succ, List.getElem_cons_zero, List.setIfInBounds_toArray, List.set_cons_zero, List.set_cons_succ]
    refine AnyBut.last (by kernel_rfl) rfl (by kernel_rfl) (fun K hK => ?_)
    go_wp2
    refine hK.out _ _ ?_
    clear hK K
    try simp only [Act.put, List.getElem_toArray, List.getElem_cons_succ, List.getElem_cons_zero, List.setIfInBounds_toArray, List.set_cons_zero, List.set_cons_succ]
    go_wp2
    go_ret
    exact ⟨rfl, HK4.out.trans (HK4D.out.trans HSS10.out.2)⟩
  · obtain rfl := hbad he
    have q2 : (E != E) = false := by simp
    have q3 : (E != (0 : Int)) = true := bneT he
    clear hbad hgood he
    go_wp2_with fail
    refine (HRO.out w2 HK2.out).mono ?_
    intro e w3 hdoc
    obtain ⟨vr, he3, hmr⟩ := (show ∃ v, e = .returned (.agg #[v, .int .i64 E]) ∧ Mine w2 w3 9 v (strs L) from hdoc)
    subst he3
    clear hdoc
    obtain ⟨ar, cr, rfl⟩ := hmr.slice
    rw [strs_length] at hmr ⊢
    obtain ⟨n, hn⟩ : ∃ n, n = L.length := ⟨_, rfl⟩
    rw [← hn] at hmr ⊢
    clear hn
    have HK3 := Lib.hid (HK2.out.trans hmr.kept)
    obtain ⟨w4, hw4⟩ : ∃ w4, w4 = w3.alloc (.cells #[.slice ar n cr, .int .i64 E] 59) := ⟨_, rfl⟩
    obtain ⟨gq, hgq⟩ : ∃ g, g = w3.heap.size := ⟨_, rfl⟩
    have HG4 : Hid (RB34 w4 gq (.slice ar n cr) E) := Lib.hid (by rw [hw4, hgq]; exact heap_alloc_new w3 _)
    have HW4 := Lib.hid (And.intro hw4 hgq)
    have HK4 : Hid (Kept (fun _ => False) W w4) := Lib.hid (HK3.out.trans (by rw [hw4]; exact (Kept.refl _ _).alloc _))
    clear hmr hw4 hgq
    go_upto_region 7 with fail
    rw [← HW4.out.1, ← HW4.out.2]
    obtain ⟨g0, g1⟩ := HG4.out.c
    go_wp2
    go_ret
    exact ⟨rfl, HK4.out⟩
end Go.Proofs.Ytkidbbmdlmnokaa
