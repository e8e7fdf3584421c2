/- package wire: field. -/
import Derived.Test.YtdgpeganmgcjiaaY11
namespace Go.Proofs.Ytdgpeganmgcjiaa
open Go.RowKit
attribute [local go_sem ↓] Go.wp_at_zero Go.wp_at_succ

theorem fieldW_bad1 {l : List Nat} (h : (gotW l).2.2 ≠ 0) : fieldW l = (⟨0, 0, 0, []⟩, 0, (gotW l).2.2) := by unfold fieldW; rw [if_pos h]
theorem fieldW_bad2 {l : List Nat} (h : (gotW l).2.2 = 0) (h2 : 2 < (gotW l).1 % 8) : fieldW l = (⟨0, 0, 0, []⟩, 0, 14) := by unfold fieldW; rw [if_neg (by simp [h]), if_pos h2]
theorem fieldW_bad3 {l : List Nat} (h : (gotW l).2.2 = 0) (h2 : ¬ 2 < (gotW l).1 % 8) (h3 : (gotW l).1 / 8 < 1 ∨ 536870911 < (gotW l).1 / 8) : fieldW l = (⟨0, 0, 0, []⟩, 0, 1) := by unfold fieldW; rw [if_neg (by simp [h]), if_neg h2, if_pos h3]
theorem fieldW_0 {l r : List Nat} {N : Nat} (h : (gotW l).2.2 = 0) (h3 : ¬ ((gotW l).1 / 8 < 1 ∨ 536870911 < (gotW l).1 / 8)) (h4 : (gotW l).1 % 8 = 0) (hN : (gotW l).2.1 = N) (hr : l.drop N = r) :
    fieldW l = if (gotW r).2.2 ≠ 0 then (⟨0, 0, 0, []⟩, 0, (gotW r).2.2) else (⟨(((gotW l).1 / 8 : Nat) : Int), 0, (gotW r).1, []⟩, N + (gotW r).2.1, 0) := by
  unfold fieldW; rw [if_neg (by simp [h]), if_neg (by omega), if_neg h3]; simp only; rw [if_pos h4, hN, hr]
theorem fieldW_1 {l r : List Nat} {N : Nat} (h : (gotW l).2.2 = 0) (h3 : ¬ ((gotW l).1 / 8 < 1 ∨ 536870911 < (gotW l).1 / 8)) (h4 : (gotW l).1 % 8 = 1) (hN : (gotW l).2.1 = N) (hr : l.drop N = r) :
    fieldW l = if (fixGot r).2.2 ≠ 0 then (⟨0, 0, 0, []⟩, 0, (fixGot r).2.2) else (⟨(((gotW l).1 / 8 : Nat) : Int), 1, (fixGot r).1, []⟩, N + (fixGot r).2.1, 0) := by
  unfold fieldW fixGot; rw [if_neg (by simp [h]), if_neg (by omega), if_neg h3]; simp only; rw [if_neg (by omega), if_pos h4, hN, hr]
  by_cases h8 : r.length < 8
  · simp [h8]
  · simp [h8]
theorem fieldW_2 {l r : List Nat} {N : Nat} (h : (gotW l).2.2 = 0) (h3 : ¬ ((gotW l).1 / 8 < 1 ∨ 536870911 < (gotW l).1 / 8)) (h4 : (gotW l).1 % 8 = 2) (hN : (gotW l).2.1 = N) (hr : l.drop N = r) :
    fieldW l = if (textGot r).2.2 ≠ 0 then (⟨0, 0, 0, []⟩, 0, (textGot r).2.2) else (⟨(((gotW l).1 / 8 : Nat) : Int), 2, 0, (textGot r).1⟩, N + (textGot r).2.1, 0) := by
  unfold fieldW textGot; rw [if_neg (by simp [h]), if_neg (by omega), if_neg h3]; simp only; rw [if_neg (by omega), if_neg (by omega), hN, hr]
  by_cases h8 : (gotW r).2.2 ≠ 0
  · rw [if_pos h8, if_pos h8]; simp only; rw [if_pos h8]
  · rw [if_neg h8, if_neg h8]
    by_cases h9 : (r.drop (gotW r).2.1).length < (gotW r).1
    · rw [if_pos h9, if_pos h9]; simp
    · rw [if_neg h9, if_neg h9]; simp

/-- What field answers. -/
def FieldGot (F : FR) (N E : Nat) (w : World) (e : Ending) (w' : World) : Prop :=
  ∃ (num ty : Int) (v : Nat) (a : Option Addr) (m c : Nat) (k : Int), e = .returned (.tuple #[.agg #[.int .i64 num, .int .i64 ty, .int .u64 (v : Int), .slice a m c], .int .i64 k, .int .i64 (E : Int)]) ∧ Kept (fun _ => False) w w' ∧
    (E = 0 → num = F.num ∧ ty = F.ty ∧ v = F.v ∧ m = F.b.length ∧ k = (N : Int) ∧ FldOk w' ⟨F, a, c⟩ ∧ ∀ x, a = some x → w.heap.size ≤ x.block ∧ x.block < w'.heap.size)
theorem field_end {fn : Func} {t u p : Tmp} {a : Act} {P : Ending → World → Prop} {w : World} {q : Nat} {x0 x1 x2 x3 : Value} {y z : Value} (hres : fn.results = #[.cell p 40, .tmp t, .tmp u]) (hp : a.tmps.getD p undef = .pointer (some ⟨q, 0, none⟩)) (hd : a.defers = [])
    (hg : w.heap[q]? = some (.cells #[x0, x1, x2, x3] 40 (0, 0))) (hy : a.tmps.getD t undef = y) (hz : a.tmps.getD u undef = z) (h : P (.returned (.tuple #[.agg #[x0, x1, x2, x3], y, z])) w) : bodyPost Try.prog fn P .ret a w :=
  bodyPost_ret (v := .tuple #[.agg #[x0, x1, x2, x3], y, z]) (by rw [← hy, ← hz]; exact results_ctt hres _ _ q 40 _ (0, 0) _ hp hg Try.underlying40 rfl fld_info) hd h

set_option maxHeartbeats 4000000 in
set_option maxRecDepth 100000 in
theorem wfield_any (ao : Option Addr) (c : Nat) (l : List Nat) (w : World) (hb : By w ao c l) (hl : l.length ≤ 100000) (t : Nat) (ht : t ≤ l.length) (F : FR) (K E : Nat) (hF : fieldW (l.drop t) = (F, K, E)) :
    Calls Try.prog 23 #[.slice ao l.length c, .int .i64 (t : Int)] w (FieldGot F K E w) := by
  obtain ⟨iI, hiI, hzI0, hzI1, hzI2⟩ := info_parts Try.infoU8
  have hk0 := (Kept.refl (fun _ => False) w).alloc (.cells #[.int .i64 0, .int .i64 0, .int .u64 0, .slice none 0 0] 40)
  have hb0 := heap_alloc_new w (.cells #[.int .i64 0, .int .i64 0, .int .u64 0, .slice none 0 0] 40)
  obtain ⟨w0, hw0⟩ : ∃ w0, w0 = w.alloc (.cells #[.int .i64 0, .int .i64 0, .int .u64 0, .slice none 0 0] 40) := ⟨_, rfl⟩
  rw [← hw0] at hk0 hb0
  have hgv := getVar_any ao c l w0 (hb.kept hk0) (by omega) t ht (gotW (l.drop t)).1 (gotW (l.drop t)).2.1 (gotW (l.drop t)).2.2 rfl
  obtain ⟨g1, g2, g3, g4⟩ := gotW_le (l.drop t) (fun x hx => hb.lt x (List.mem_of_mem_drop hx))
  have HB := Lib.hid hb
  have f1 := @fieldW_bad1 (l.drop t)
  have f2 := @fieldW_bad2 (l.drop t)
  have f3 := @fieldW_bad3 (l.drop t)
  have f4 := @fieldW_0 (l.drop t)
  have f5 := @fieldW_1 (l.drop t)
  have f6 := @fieldW_2 (l.drop t)
  rw [hF] at f1 f2 f3
  simp only [hF] at f4 f5 f6
  obtain ⟨V, hV⟩ : ∃ V, V = (gotW (l.drop t)).1 := ⟨_, rfl⟩
  obtain ⟨N, hN⟩ : ∃ V, V = (gotW (l.drop t)).2.1 := ⟨_, rfl⟩
  obtain ⟨G, hG⟩ : ∃ V, V = (gotW (l.drop t)).2.2 := ⟨_, rfl⟩
  rw [← hV, ← hN, ← hG] at hgv
  rw [← hN] at g1 g2
  rw [← hG] at g2 f1 f2 f3
  rw [← hV] at g4 f2 f3
  simp only [← hV, ← hN, ← hG] at f4 f5 f6
  rw [List.length_drop] at g1
  have HGV := Lib.hid hgv
  have HK0 := Lib.hid hk0
  have HB0 := Lib.hid hb0
  have HW0 := Lib.hid hw0
  have HT := Lib.hid (And.intro g1 (And.intro ht hl))
  have b0 : (0 : Int) ≤ (t : Int) := by omega
  have b1 : (t : Int) ≤ 100000 := by omega
  have b2 : (N : Int) ≤ 100000 := by omega
  have hbx := box4 hb0
  clear hgv hk0 hb0 hw0 hV hN hG hF hb g1 g2 g3 hl
  by_cases hG0 : G ≠ 0
  · have hq : ((G : Int) != 0) = true := bneT (by omega)
    have HF := Lib.hid (f1 hG0)
    have HG0 := Lib.hid hG0
    clear f1 f2 f3 f4 f5 f6 hG0 ht g4
    go_enter Try.func23, Try.ntmps23
    go_upto_region 1 with fail
    rw [← HW0.out]
    go_wp2_with (go_at_call 18; refine HGV.out.mono ?_; rintro e w' ⟨rfl, rfl⟩)
    refine field_end Try.results23 rfl rfl (four_set HB0.out) rfl rfl ?_
    have h := HF.out
    injection h with h1 h
    injection h with h2 h3
    subst h1 h2 h3
    exact ⟨0, 0, 0, none, 0, 0, 0, rfl, four_kept HK0.out (.inl (Nat.le_refl _)), fun h => absurd h HG0.out⟩
  · have hG1 : G = 0 := by omega
    subst hG1
    obtain ⟨A, hA⟩ : ∃ A, A = V % 8 := ⟨_, rfl⟩
    obtain ⟨B, hB⟩ : ∃ B, B = V / 8 := ⟨_, rfl⟩
    have hand : bits .and .u64 (V : Int) 7 = (A : Int) := by
      have := u64_and_nat V 7 (by omega) (by omega)
      rw [show V &&& 7 = V % 8 from Nat.and_two_pow_sub_one_eq_mod V 3, ← hA] at this
      exact this
    have hshr : (V : Int) / 8 = (B : Int) := by omega
    rw [← hA] at f2
    rw [← hA, ← hB] at f3
    simp only [← hA, ← hB] at f4 f5 f6
    have HAB := Lib.hid (And.intro hA hB)
    clear hA hB hG0 f1
    by_cases hA2 : 2 < A
    · have HF := Lib.hid (f2 rfl hA2)
      have hq : (2 : Int) < (A : Int) := by omega
      clear f2 f3 f4 f5 f6 hA2 ht g4
      go_enter Try.func23, Try.ntmps23
      go_upto_region 1 with fail
      rw [← HW0.out]
      go_wp2_with (go_at_call 18; refine HGV.out.mono ?_; rintro e w' ⟨rfl, rfl⟩)
      refine field_end Try.results23 rfl rfl (four_set HB0.out) rfl rfl ?_
      have h := HF.out
      injection h with h1 h
      injection h with h2 h3
      subst h1 h2 h3
      exact ⟨0, 0, 0, none, 0, 0, 0, rfl, four_kept HK0.out (.inl (Nat.le_refl _)), fun h => absurd h (by decide)⟩
    · by_cases hB2 : B < 1 ∨ 536870911 < B
      · have HF := Lib.hid (f3 rfl hA2 hB2)
        have hq : ¬ (2 : Int) < (A : Int) := by omega
        clear f2 f3 f4 f5 f6 hA2 ht g4
        rcases (show (B : Int) < 1 ∨ ¬ (B : Int) < 1 ∧ (536870911 : Int) < (B : Int) by omega) with r1 | ⟨r1, r2⟩ <;> clear hB2 <;>
        · go_enter Try.func23, Try.ntmps23
          go_upto_region 1 with fail
          rw [← HW0.out]
          go_wp2_with (go_at_call 18; refine HGV.out.mono ?_; rintro e w' ⟨rfl, rfl⟩)
          refine field_end Try.results23 rfl rfl (four_set HB0.out) rfl rfl ?_
          have h := HF.out
          injection h with h1 h
          injection h with h2 h3
          subst h1 h2 h3
          exact ⟨0, 0, 0, none, 0, 0, 0, rfl, four_kept HK0.out (.inl (Nat.le_refl _)), fun h => absurd h (by decide)⟩
      · have hq : ¬ (2 : Int) < (A : Int) := by omega
        have r1 : ¬ (B : Int) < 1 := by omega
        have r2 : ¬ (536870911 : Int) < (B : Int) := by omega
        have hk1 := (Kept.refl (fun _ => False) w0).alloc (.cells #[.int .i64 (B : Int), .int .i64 (A : Int), .int .u64 0, .slice none 0 0] 40)
        have hb1 := heap_alloc_new w0 (.cells #[.int .i64 (B : Int), .int .i64 (A : Int), .int .u64 0, .slice none 0 0] 40)
        obtain ⟨w1, hw1⟩ : ∃ w1, w1 = w0.alloc (.cells #[.int .i64 (B : Int), .int .i64 (A : Int), .int .u64 0, .slice none 0 0] 40) := ⟨_, rfl⟩
        rw [← hw1] at hk1 hb1
        obtain ⟨q1, hq1⟩ : ∃ q, q = w0.heap.size := ⟨_, rfl⟩
        rw [← hq1] at hb1
        have HQ1 := Lib.hid hq1
        have HK1 := Lib.hid hk1
        have HB1 := Lib.hid hb1
        have HW1 := Lib.hid hw1
        have hq01 : q1 ≠ w.heap.size := by have := (Array.getElem?_eq_some_iff.1 HB0.out).1; omega
        have HQ01 := Lib.hid (And.intro hq01 (show w.heap.size < q1 by have := (Array.getElem?_eq_some_iff.1 HB0.out).1; omega))
        have HB0' := Lib.hid (hk1.same HB0.out (fun x => x))
        have HBY := Lib.hid (HB.out.kept (HK0.out.trans hk1))
        have hbx1 := box4 hb1
        have hbx0 := box4 HB0'.out
        obtain ⟨S, hS⟩ : ∃ S, S = t + N := ⟨_, rfl⟩
        have hs1 : (t : Int) + (N : Int) = (S : Int) := by omega
        have hSl : S ≤ l.length := by have := HT.out; omega
        have hSd : (l.drop t).drop N = l.drop S := by rw [List.drop_drop, hS]
        have b3 : (S : Int) ≤ 100000 := by have := HT.out; omega
        have hll := HT.out.2.2
        have HSN := Lib.hid hS
        obtain ⟨r, hr⟩ : ∃ r, r = l.drop S := ⟨_, rfl⟩
        have hrl : r.length = l.length - S := by rw [hr, List.length_drop]
        have HRB := Lib.hid (show ∀ x ∈ r, x < 256 from fun x hx => HB.out.lt x (by rw [hr] at hx; exact List.mem_of_mem_drop hx))
        rw [← hr] at hSd
        clear hk1 hb1 hw1 hq1 f2 f3 hS hbx
        have hA3 : A = 0 ∨ A = 1 ∨ A = 2 := by omega
        have HBB := Lib.hid (show 1 ≤ B ∧ B ≤ 536870911 by omega)
        clear g4 ht
        rcases hA3 with h0 | h0 | h0
        · have HA := Lib.hid h0
          have f := f4 trivial hB2 h0 rfl hSd
          have hgv := getVar_any ao c l w1 HBY.out (by omega) S hSl (gotW r).1 (gotW r).2.1 (gotW r).2.2 (by rw [hr])
          obtain ⟨g1, g2, g3, g4⟩ := gotW_le r HRB.out
          obtain ⟨V2, hV2⟩ : ∃ V, V = (gotW r).1 := ⟨_, rfl⟩
          obtain ⟨N2, hN2⟩ : ∃ V, V = (gotW r).2.1 := ⟨_, rfl⟩
          obtain ⟨E2, hE2⟩ : ∃ V, V = (gotW r).2.2 := ⟨_, rfl⟩
          rw [← hV2, ← hN2, ← hE2] at hgv
          simp only [← hV2, ← hN2, ← hE2] at f
          rw [← hN2] at g1
          rw [← hV2] at g4
          have a0 : ((A : Int) == 0) = true := beqT (by omega)
          have HGV2 := Lib.hid hgv
          have HF := Lib.hid f
          have b4 : (N2 : Int) ≤ 100010 := by omega
          have b5 : (0 : Int) ≤ (S : Int) := by omega
          have HG1 := Lib.hid g1
          have HG4 := Lib.hid g4
          clear hgv f f4 f5 f6 hB2 hA2 hSl hSd hll hr hrl h0 hV2 hN2 hE2 g1 g2 g3 g4
          go_enter Try.func23, Try.ntmps23
          go_upto_region 1 with fail
          rw [← HW0.out]
          go_upto_region 10 with (go_at_call 18; refine HGV.out.mono ?_; rintro e w' ⟨rfl, rfl⟩)
          rw [← HW1.out, ← HQ1.out]
          go_upto_region 18 with (go_at_call 18; refine HGV2.out.mono ?_; rintro e w' ⟨rfl, rfl⟩)
          have HB1s := Lib.hid (heap_setCell_same w1 q1 2 _ _ (.int .u64 (V2 : Int)) HB1.out)
          have HB0s := Lib.hid ((cell_other (w := w1) (g := q1) (k := w.heap.size) (o := 2) (x := .int .u64 (V2 : Int)) (fun e => HQ01.out.1 e.symm)).trans HB0'.out)
          have HKs := Lib.hid ((HK0.out.trans HK1.out).setCell (p := ⟨q1, 2, none⟩) (fun hlt => by have := HQ01.out; simp only at hlt; omega) (.int .u64 (V2 : Int)))
          obtain ⟨ws, hws⟩ : ∃ ws, ws = w1.setCell ⟨q1, 2, none⟩ (.int .u64 (V2 : Int)) := ⟨_, rfl⟩
          rw [← hws] at HB1s HB0s HKs ⊢
          have hbs := box4 (a := .int .i64 (B : Int)) (b := .int .i64 (A : Int)) (c := .int .u64 (V2 : Int)) (d := .slice none 0 0) (by have := HB1s.out; simpa using this)
          have hbs0 := box4 HB0s.out
          clear hws hbx1 hbx0
          go_wp2
          refine field_end Try.results23 rfl rfl (four_set HB0s.out) rfl rfl ?_
          have h := HF.out
          by_cases hE0 : E2 = 0
          · subst hE0
            rw [if_neg (by simp)] at h
            injection h with h1 h
            injection h with h2 h3
            subst h1 h2 h3
            refine ⟨_, _, _, none, 0, 0, _, rfl, four_kept HKs.out (.inl (Nat.le_refl _)), fun _ => ⟨rfl, by have := HA.out; simp only; omega, rfl, rfl, by have := HSN.out; omega, ⟨⟨by simp only; omega, by simp only; have := HBB.out; omega⟩, ⟨by simp, by simp⟩, HG4.out, ⟨⟨none, 0, rfl, fun _ => rfl, fun a ha => by cases ha⟩, Nat.le_refl _, by simp⟩⟩, fun x hx => by cases hx⟩⟩
          · rw [if_pos hE0] at h
            injection h with h1 h
            injection h with h2 h3
            subst h1 h2 h3
            exact ⟨_, _, _, none, 0, 0, _, rfl, four_kept HKs.out (.inl (Nat.le_refl _)), fun h => absurd h hE0⟩
        · have HA := Lib.hid h0
          have f := f5 trivial hB2 h0 rfl hSd
          have hcut := HBY.out.cutL (s := S) hSl
          rw [← hr] at hcut
          have c1 : ∀ w, (Instr.slice 25 (.slice ao l.length c) (some (.int .i64 (S : Int))) none none).run Try.prog w = .ok (.slice (if c = S then ao else ao.map (·.add S)) r.length (c - S)) w := fun w => by
            rw [hrl]; exact run_cutL Try.underlying25 hiI hzI1 ao l.length c S hSl w
          obtain ⟨bo, hbo⟩ : ∃ bo, bo = (if c = S then ao else ao.map (·.add S)) := ⟨_, rfl⟩
          rw [← hbo] at hcut c1
          obtain ⟨d, hd⟩ : ∃ d, d = c - S := ⟨_, rfl⟩
          rw [← hd] at hcut c1
          have hgv := getFixed_any (.slice bo r.length d) r w1 hcut.at_ HRB.out (by omega) (fixGot r).1 (fixGot r).2.1 (fixGot r).2.2 rfl
          have g1 : (fixGot r).2.1 ≤ 8 := by unfold fixGot; split <;> simp
          have g4 : (fixGot r).1 < 18446744073709551616 := by
            unfold fixGot
            split
            · simp
            · have := num8_lt (r.take 8) (fun x hx => HRB.out x (List.mem_of_mem_take hx))
              rw [List.length_take, Nat.min_eq_left (by omega), ← p256] at this; exact this
          obtain ⟨V2, hV2⟩ : ∃ V, V = (fixGot r).1 := ⟨_, rfl⟩
          obtain ⟨N2, hN2⟩ : ∃ V, V = (fixGot r).2.1 := ⟨_, rfl⟩
          obtain ⟨E2, hE2⟩ : ∃ V, V = (fixGot r).2.2 := ⟨_, rfl⟩
          rw [← hV2, ← hN2, ← hE2] at hgv
          simp only [← hV2, ← hN2, ← hE2] at f
          rw [← hN2] at g1
          rw [← hV2] at g4
          obtain ⟨rn, hrn⟩ : ∃ n, n = r.length := ⟨_, rfl⟩
          rw [← hrn] at hgv c1
          have a0 : ((A : Int) == 0) = false := beqF (by omega)
          have a1 : ((A : Int) == 1) = true := beqT (by omega)
          have bS0 : (0 : Int) ≤ (S : Int) := by omega
          clear hcut hbo hd hrn
          have HGV2 := Lib.hid hgv
          have HF := Lib.hid f
          have b4 : (N2 : Int) ≤ 100010 := by omega
          have b5 : (0 : Int) ≤ (S : Int) := by omega
          have HG1 := Lib.hid g1
          have HG4 := Lib.hid g4
          clear hgv f f4 f5 f6 hB2 hA2 hSl hSd hll hr hrl h0 hV2 hN2 hE2 g1 g4
          go_enter Try.func23, Try.ntmps23
          go_upto_region 1 with fail
          rw [← HW0.out]
          go_upto_region 10 with (go_at_call 18; refine HGV.out.mono ?_; rintro e w' ⟨rfl, rfl⟩)
          rw [← HW1.out, ← HQ1.out]
          go_upto_region 18 with (go_at_call 26; refine HGV2.out.mono ?_; rintro e w' ⟨rfl, rfl⟩)
          have HB1s := Lib.hid (heap_setCell_same w1 q1 2 _ _ (.int .u64 (V2 : Int)) HB1.out)
          have HB0s := Lib.hid ((cell_other (w := w1) (g := q1) (k := w.heap.size) (o := 2) (x := .int .u64 (V2 : Int)) (fun e => HQ01.out.1 e.symm)).trans HB0'.out)
          have HKs := Lib.hid ((HK0.out.trans HK1.out).setCell (p := ⟨q1, 2, none⟩) (fun hlt => by have := HQ01.out; simp only at hlt; omega) (.int .u64 (V2 : Int)))
          obtain ⟨ws, hws⟩ : ∃ ws, ws = w1.setCell ⟨q1, 2, none⟩ (.int .u64 (V2 : Int)) := ⟨_, rfl⟩
          rw [← hws] at HB1s HB0s HKs ⊢
          have hbs := box4 (a := .int .i64 (B : Int)) (b := .int .i64 (A : Int)) (c := .int .u64 (V2 : Int)) (d := .slice none 0 0) (by have := HB1s.out; simpa using this)
          have hbs0 := box4 HB0s.out
          clear hws hbx1 hbx0
          go_wp2
          refine field_end Try.results23 rfl rfl (four_set HB0s.out) rfl rfl ?_
          have h := HF.out
          by_cases hE0 : E2 = 0
          · subst hE0
            rw [if_neg (by simp)] at h
            injection h with h1 h
            injection h with h2 h3
            subst h1 h2 h3
            refine ⟨_, _, _, none, 0, 0, _, rfl, four_kept HKs.out (.inl (Nat.le_refl _)), fun _ => ⟨rfl, by have := HA.out; simp only; omega, rfl, rfl, by have := HSN.out; omega, ⟨⟨by simp only; omega, by simp only; have := HBB.out; omega⟩, ⟨by simp, by simp⟩, HG4.out, ⟨⟨none, 0, rfl, fun _ => rfl, fun a ha => by cases ha⟩, Nat.le_refl _, by simp⟩⟩, fun x hx => by cases hx⟩⟩
          · rw [if_pos hE0] at h
            injection h with h1 h
            injection h with h2 h3
            subst h1 h2 h3
            exact ⟨_, _, _, none, 0, 0, _, rfl, four_kept HKs.out (.inl (Nat.le_refl _)), fun h => absurd h hE0⟩
        · have HA := Lib.hid h0
          have f := f6 trivial hB2 h0 rfl hSd
          have hgv := getText_any ao c l w1 HBY.out hll S hSl (textGot r).1 (textGot r).2.1 (textGot r).2.2 (by rw [hr])
          have g1 : (textGot r).2.1 ≤ r.length ∧ ∀ x ∈ (textGot r).1, x < 256 := by
            obtain ⟨g1, g2, g3, g4⟩ := gotW_le r HRB.out
            unfold textGot
            split
            · simp
            · split
              · simp
              · rename_i h8 h9
                rw [List.length_drop] at h9
                exact ⟨by simp only; omega, fun x hx => HRB.out x (List.mem_of_mem_drop (List.mem_of_mem_take hx))⟩
          have HMB := Lib.hid g1.2
          have g1 := g1.1
          obtain ⟨M2, hV2⟩ : ∃ V, V = (textGot r).1 := ⟨_, rfl⟩
          obtain ⟨N2, hN2⟩ : ∃ V, V = (textGot r).2.1 := ⟨_, rfl⟩
          obtain ⟨E2, hE2⟩ : ∃ V, V = (textGot r).2.2 := ⟨_, rfl⟩
          rw [← hV2] at HMB
          rw [← hV2, ← hN2, ← hE2] at hgv
          simp only [← hV2, ← hN2, ← hE2] at f
          rw [← hN2] at g1
          obtain ⟨mn, hmn⟩ : ∃ n, n = M2.length := ⟨_, rfl⟩
          rw [← hmn] at hgv
          have HMN := Lib.hid hmn
          have a0 : ((A : Int) == 0) = false := beqF (by omega)
          have a1 : ((A : Int) == 1) = false := beqF (by omega)
          have a2 : ((A : Int) == 2) = true := beqT (by omega)
          clear hmn
          have HGV2 := Lib.hid hgv
          have HF := Lib.hid f
          have b4 : (N2 : Int) ≤ 100010 := by omega
          have b5 : (0 : Int) ≤ (S : Int) := by omega
          have HG1 := Lib.hid g1
          clear hgv f f4 f5 f6 hB2 hA2 hSl hSd hll hr hrl h0 hV2 hN2 hE2 g1
          go_enter Try.func23, Try.ntmps23
          go_upto_region 1 with fail
          rw [← HW0.out]
          go_upto_region 10 with (go_at_call 18; refine HGV.out.mono ?_; rintro e w' ⟨rfl, rfl⟩)
          rw [← HW1.out, ← HQ1.out]
          go_wp2_with fail
          refine HGV2.out.mono ?_
          rintro e w2 ⟨a2', c2', rfl, hm2⟩
          have HM2 := Lib.hid hm2
          have HB12 := Lib.hid (hm2.kept.same HB1.out (fun x => x))
          have HB02 := Lib.hid (hm2.kept.same HB0'.out (fun x => x))
          have hbx2 := box4 HB12.out
          have hbx3 := box4 HB02.out
          clear hm2
          go_upto_region 18 with fail
          have HB1s := Lib.hid (heap_setCell_same w2 q1 3 _ _ (.slice a2' mn c2') HB12.out)
          have HB0s := Lib.hid ((cell_other (w := w2) (g := q1) (k := w.heap.size) (o := 3) (x := .slice a2' mn c2') (fun e => HQ01.out.1 e.symm)).trans HB02.out)
          have HKs := Lib.hid ((HK0.out.trans (HK1.out.trans HM2.out.kept)).setCell (p := ⟨q1, 3, none⟩) (fun hlt => by have := HQ01.out; simp only at hlt; omega) (.slice a2' mn c2'))
          have HSS := Lib.hid ((Kept.refl (fun k => k = q1) w2).setCell (p := ⟨q1, 3, none⟩) (fun _ => rfl) (.slice a2' mn c2'))
          obtain ⟨ws, hws⟩ : ∃ ws, ws = w2.setCell ⟨q1, 3, none⟩ (.slice a2' mn c2') := ⟨_, rfl⟩
          rw [← hws] at HB1s HB0s HKs HSS ⊢
          have hbs := box4 (a := .int .i64 (B : Int)) (b := .int .i64 (A : Int)) (c := .int .u64 0) (d := .slice a2' mn c2') (by have := HB1s.out; simpa using this)
          have hbs0 := box4 HB0s.out
          clear hws hbx1 hbx0 hbx2 hbx3
          go_wp2
          refine field_end Try.results23 rfl rfl (four_set HB0s.out) rfl rfl ?_
          have h := HF.out
          by_cases hE0 : E2 = 0
          · subst hE0
            rw [if_neg (by simp)] at h
            injection h with h1 h
            injection h with h2 h3
            subst h1 h2 h3
            have hfr := own_fresh8 HM2.out
            have hlt1 := (Array.getElem?_eq_some_iff.1 HB1.out).1
            have hlt0 := HQ01.out
            refine ⟨_, _, 0, a2', mn, c2', _, rfl, four_kept HKs.out (.inl (Nat.le_refl _)), fun _ => ⟨rfl, by have := HA.out; simp only; omega, rfl, HMN.out, by have := HSN.out; omega, ⟨⟨by simp only; omega, by simp only; have := HBB.out; omega⟩, ⟨by simp, by simp⟩, by simp, ?_⟩, fun x hx => ?_⟩⟩
            · have hm2 := HM2.out
              rw [HMN.out] at hm2
              refine ((By.ofMine hm2 HMB.out).keptS HSS.out (fun _ x hx => ?_)).keptS (four_kept (S := fun k => k = w.heap.size) (Kept.refl _ _) (.inr rfl)) (fun _ x hx => ?_)
              · have := hfr x hx; omega
              · have := hfr x hx; omega
            · have h1 := hfr x hx
              have h2 := HSS.out.size
              have h3 := (four_kept (S := fun k => k = w.heap.size) (x := .int .i64 (B : Int)) (y := .int .i64 (A : Int)) (z := .int .u64 0) (u := .slice a2' mn c2') (Kept.refl _ ws) (.inr rfl)).size
              exact ⟨by omega, by omega⟩
          · rw [if_pos hE0] at h
            injection h with h1 h
            injection h with h2 h3
            subst h1 h2 h3
            exact ⟨_, _, 0, a2', mn, c2', _, rfl, four_kept HKs.out (.inl (Nat.le_refl _)), fun h => absurd h hE0⟩
end Go.Proofs.Ytdgpeganmgcjiaa
