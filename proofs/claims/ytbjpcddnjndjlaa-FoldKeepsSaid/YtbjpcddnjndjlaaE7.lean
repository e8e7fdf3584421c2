/- The document's both: two sides together. -/
import Derived.Test.YtbjpcddnjndjlaaE6
namespace Go.Proofs.Ytbjpcddnjndjlaa
open Go.RowKit
attribute [local go_sem ↓] Go.wp_at_zero Go.wp_at_succ

/-- Boxes but that of a side that is made. -/
structure BothBx (w wr : World) (p : Nat) (o1 o2 o3 o4 : Int) (v1 v2 v3 v4 : Value) : Prop where
  a : SideBox wr w.heap.size o1 v1
  b : SideBox wr (w.heap.size + 1) o2 v2
  r : SideBox wr (w.heap.size + 1 + 1) o3 v3
  b4 : SideBox wr p o4 v4
  lt : w.heap.size + 1 + 1 < p
theorem BothBx.on {w wr w' : World} {p : Nat} {o1 o2 o3 o4 : Int} {v1 v2 v3 v4 : Value} (h : BothBx w wr p o1 o2 o3 o4 v1 v2 v3 v4) (k : Kept (fun _ => False) wr w') : BothBx w w' p o1 o2 o3 o4 v1 v2 v3 v4 := ⟨h.a.same k (fun x => x), h.b.same k (fun x => x), h.r.same k (fun x => x), h.b4.same k (fun x => x), h.lt⟩
theorem BothBx.cells {w wr : World} {p : Nat} {o1 o2 o3 o4 : Int} {v1 v2 v3 v4 : Value} (h : BothBx w wr p o1 o2 o3 o4 v1 v2 v3 v4) : wr.cell? ⟨p, 1, none⟩ = some v4 ∧ (wr.cell? ⟨w.heap.size, 0, none⟩ = some (.int .i64 o1) ∧ wr.cell? ⟨w.heap.size, 1, none⟩ = some v1) ∧ (wr.cell? ⟨w.heap.size + 1, 0, none⟩ = some (.int .i64 o2) ∧ wr.cell? ⟨w.heap.size + 1, 1, none⟩ = some v2) :=
  ⟨h.b4.c.1.2, h.a.c.1, h.b.c.1⟩
/-- The same, with what is made. -/
structure BothAt (w wr : World) (p : Nat) (o1 o2 o3 o4 : Int) (v1 v2 v3 v4 : Value) (l : List Nat) : Prop where
  bx : BothBx w wr p o1 o2 o3 o4 v1 v2 v3 v4
  own : Mine w wr 22 v4 (uvals l)
theorem BothAt.on {w wr w' : World} {p : Nat} {o1 o2 o3 o4 : Int} {v1 v2 v3 v4 : Value} {l : List Nat} (h : BothAt w wr p o1 o2 o3 o4 v1 v2 v3 v4 l) (k : Kept (fun _ => False) wr w') : BothAt w w' p o1 o2 o3 o4 v1 v2 v3 v4 l := ⟨h.bx.on k, h.own.on k⟩
theorem BothAt.cells {w wr : World} {p : Nat} {o1 o2 o3 o4 : Int} {v1 v2 v3 v4 : Value} {l : List Nat} (h : BothAt w wr p o1 o2 o3 o4 v1 v2 v3 v4 l) : wr.cell? ⟨p, 1, none⟩ = some v4 ∧ (wr.cell? ⟨w.heap.size, 0, none⟩ = some (.int .i64 o1) ∧ wr.cell? ⟨w.heap.size, 1, none⟩ = some v1) ∧ (wr.cell? ⟨w.heap.size + 1, 0, none⟩ = some (.int .i64 o2) ∧ wr.cell? ⟨w.heap.size + 1, 1, none⟩ = some v2) := h.bx.cells
theorem BothAt.grow {w wr w' : World} {p : Nat} {o1 o2 o3 o4 : Int} {v1 v2 v3 v4 : Value} {l : List Nat} (h : BothAt w wr p o1 o2 o3 o4 v1 v2 v3 v4 l) (k : Kept (fun k => v4.ownBlock = some k) wr w') : BothBx w w' p o1 o2 o3 o4 v1 v2 v3 v4 :=
  ⟨h.bx.a.same k (own_box h.own.own h.bx.a (by decide)), h.bx.b.same k (own_box h.own.own h.bx.b (by decide)), h.bx.r.same k (own_box h.own.own h.bx.r (by decide)), h.bx.b4.same k (own_box h.own.own h.bx.b4 (by decide)), h.bx.lt⟩
theorem BothBx.set1 {w wr : World} {p : Nat} {o1 o2 o3 o4 : Int} {v1 v2 v3 v4 v' : Value} {l' : List Nat} (h : BothBx w wr p o1 o2 o3 o4 v1 v2 v3 v4) (hm : Mine w wr 22 v' (uvals l')) : BothAt w (wr.setCell ⟨p, 1, none⟩ v') p o1 o2 o3 o4 v1 v2 v3 v' l' := by
  have k := setCell_kept wr p 1 v'
  have hlt := h.lt
  refine ⟨⟨h.a.same k (by omega), h.b.same k (by omega), h.r.same k (by omega), h.b4.set1 v', h.lt⟩, ?_⟩
  exact hm.keptS k (fun j e x => own_box hm.own h.b4 (by decide) (by rw [e, x])) (fun j e => by omega)
theorem BothAt.mk0 {w w0 w1 : World} {o1 o2 : Int} {v1 v2 : Value} (h : SB3 w w0 o1 o2 0 v1 v2 (.slice none 0 0)) (hw : Kept (fun _ => False) w w0) (k : Kept (fun _ => False) w0 w1) (F : Int) : BothAt w (w1.alloc (.cells #[.int .i64 F, .slice none 0 0] 25)) w1.heap.size o1 o2 0 F v1 v2 (.slice none 0 0) (.slice none 0 0) [] := by
  have k2 := k.alloc (.cells #[.int .i64 F, .slice none 0 0] 25)
  have h2 := h.on k2
  refine ⟨⟨h2.a, h2.b, h2.r, heap_alloc_new w1 _, ?_⟩, Mine.nil' _ (hw.trans k2)⟩
  have := (Array.getElem?_eq_some_iff.1 h.r).1
  have := k.size
  omega

set_option maxHeartbeats 4000000 in
set_option maxRecDepth 100000 in
theorem refBoth_any (o1 : Int) (l1 : List Nat) (o2 : Int) (l2 : List Nat) (v1 v2 : Value) (w : World) (m1 : SlAt w v1 (uvals l1)) (m2 : SlAt w v2 (uvals l2)) (h1 : sideE o1 l1 = 0) (h2 : sideE o2 l2 = 0) (hs : l1.sum + l2.sum < 18446744073709551616) :
    Calls Try.prog 46 #[.agg #[.int .i64 o1, v1], .agg #[.int .i64 o2, v2]] w (SideTry w w (mgOk o1 l1 o2 l2) (mgO o1 l1 o2 l2) (mgR o1 l1 o2 l2)) := by
  obtain ⟨a1, a2, a3⟩ := sideE_zero h1
  obtain ⟨b1, b2, b3⟩ := sideE_zero h2
  obtain ⟨r1, r2⟩ := (side_range h1).1
  obtain ⟨r3, r4⟩ := (side_range h2).1
  obtain ⟨ao, c, hval1, _, _⟩ := m1.val
  obtain ⟨bo, d, hval2, _, _⟩ := m2.val
  rw [uvals_length] at hval1 hval2
  subst hval1 hval2
  have hsb := SB3.mk0 w o1 o2 (.slice ao l1.length c) (.slice bo l2.length d)
  obtain ⟨w0, hw0⟩ : ∃ w0, w0 = (((w.alloc (.cells #[.int .i64 o1, .slice ao l1.length c] 25)).alloc (.cells #[.int .i64 o2, .slice bo l2.length d] 25)).alloc (.cells #[.int .i64 0, .slice none 0 0] 25)) := ⟨_, rfl⟩
  rw [← hw0] at hsb
  have k0 : Kept (fun _ => False) w w0 := by rw [hw0]; exact (((Kept.refl _ w).alloc _).alloc _).alloc _
  have HW0 := Lib.hid hw0
  have HSB := Lib.hid hsb
  have HK0 := Lib.hid k0
  have HV1 := Lib.hid m1
  have HV2 := Lib.hid m2
  have hr := reach_any o1 l1 o2 l2 _ _ w0 (m1.kept k0 (fun _ _ x => x)) (m2.kept k0 (fun _ _ x => x)) ⟨r1, r2⟩ ⟨r3, r4⟩ (by omega) (by omega)
  unfold reachV at hr
  obtain ⟨f1, f2, f3, f4, f5⟩ := sp_facts o1 l1 o2 l2
  have HA1 := Lib.hid fun w' (k : SlAt w' (.slice ao l1.length c) (uvals l1)) i (hi : -1000000000000 ≤ i ∧ i ≤ 1000000000000) => refAt9_any o1 i l1 _ w' k ⟨r1, r2⟩ hi (by omega)
  have HA2 := Lib.hid fun w' (k : SlAt w' (.slice bo l2.length d) (uvals l2)) i (hi : -1000000000000 ≤ i ∧ i ≤ 1000000000000) => refAt9_any o2 i l2 _ w' k ⟨r3, r4⟩ hi (by omega)
  by_cases hz : l1.length = 0 ∧ l2.length = 0
  · obtain ⟨z1, z2⟩ := hz
    obtain ⟨e1, e2⟩ := f5 z1 z2
    rw [if_pos ⟨z1, z2⟩, decide_eq_false (by omega), e1] at hr
    rw [hw0] at hr
    have en : spN o1 l1 o2 l2 = 0 := by omega
    have HR : Hid (mgOk o1 l1 o2 l2 = true ∧ mgO o1 l1 o2 l2 = 0 ∧ mgR o1 l1 o2 l2 = []) := Lib.hid ⟨decide_eq_true (by omega), by unfold mgO; rw [if_pos (by omega)]; exact e1, by unfold mgR; rw [if_pos (by omega)]; unfold mgL; rw [en]; rfl⟩
    have HC := Lib.hid hr
    clear hr m1 m2 hw0 hsb k0 z1 z2 e1 e2 en a1 a2 a3 b1 b2 b3 h1 h2 hs f1 f2 f3 f4 f5 r1 r2 r3 r4
    go_enter Try.func46, Try.ntmps46
    go_wp2_with fail
    refine HC.out.mono ?_
    rintro e w1 ⟨rfl, k1⟩
    rw [← HW0.out] at k1
    have HK1 := Lib.hid (HK0.out.trans k1)
    have hx := HSB.out.on k1
    have HX := Lib.hid hx
    obtain ⟨⟨x0, x1⟩, g0, g1⟩ := hx.r.c
    clear k1 hx
    go_wp2
    refine side2_end (o := 0) (v := .slice none 0 0) Try.results46 rfl rfl rfl (HX.out.r.set 0 (.slice none 0 0)) ?_
    obtain ⟨r1, r2, r3⟩ := HR.out
    rw [r1, r2, r3]
    exact ⟨_, rfl, Mine.nil' _ (two_kept HK1.out (by omega)), two_kept HK1.out (by omega)⟩
  · have hz' : l1.length ≠ 0 ∨ l2.length ≠ 0 := by omega
    rw [if_neg hz, decide_eq_true hz'] at hr
    rw [hw0] at hr
    have hF : -2000000000 ≤ spF o1 l1 o2 l2 ∧ spF o1 l1 o2 l2 ≤ 2000000000 ∧ -2000000000 ≤ spT o1 l1 o2 l2 ∧ spT o1 l1 o2 l2 ≤ 2000000000 := by
      obtain ⟨g1, g2⟩ := f4 hz'
      rcases g1 with ⟨z, e⟩ | ⟨z, e⟩ <;> rcases g2 with ⟨y, e'⟩ | ⟨y, e'⟩
      · have := a3 z; omega
      · have := a3 z; have := b3 y; omega
      · have := b3 z; have := a3 y; omega
      · have := b3 z; omega
    have hAll : rowF (spF o1 l1 o2 l2) (spN o1 l1 o2 l2) (fun i => atN o1 l1 i + atN o2 l2 i) = mgL o1 l1 o2 l2 := rfl
    have hok : mgOk o1 l1 o2 l2 = decide (spN o1 l1 o2 l2 ≤ 160) := rfl
    have ho : mgO o1 l1 o2 l2 = if spN o1 l1 o2 l2 ≤ 160 then spF o1 l1 o2 l2 else 0 := rfl
    have hrr : mgR o1 l1 o2 l2 = if spN o1 l1 o2 l2 ≤ 160 then mgL o1 l1 o2 l2 else [] := rfl
    rw [hok, ho, hrr, ← hAll]
    obtain ⟨F, hFF⟩ : ∃ F, F = spF o1 l1 o2 l2 := ⟨_, rfl⟩
    obtain ⟨T, hTT⟩ : ∃ T, T = spT o1 l1 o2 l2 := ⟨_, rfl⟩
    obtain ⟨N, hNN⟩ : ∃ N, N = spN o1 l1 o2 l2 := ⟨_, rfl⟩
    rw [← hFF, ← hTT] at f1 hF hr
    rw [← hFF]
    rw [← hNN] at f1 ⊢
    obtain ⟨g, hg⟩ : ∃ g : Int → Nat, g = fun i => atN o1 l1 i + atN o2 l2 i := ⟨_, rfl⟩
    rw [← hg]
    have HG : Hid (∀ i, atN o1 l1 i + atN o2 l2 i = g i ∧ g i < 18446744073709551616) := Lib.hid fun i => by have := atN_le o1 i l1; have := atN_le o2 i l2; rw [hg]; exact ⟨rfl, by simp only; omega⟩
    obtain ⟨OK, hOK⟩ : ∃ B, B = decide (N ≤ 160) := ⟨_, rfl⟩
    obtain ⟨OO, hOO⟩ : ∃ B, B = if N ≤ 160 then F else 0 := ⟨_, rfl⟩
    obtain ⟨RR, hRR⟩ : ∃ B, B = if N ≤ 160 then rowF F N g else [] := ⟨_, rfl⟩
    rw [← hOK, ← hOO, ← hRR]
    have HOK : Hid ((N ≤ 160 → OK = true ∧ OO = F ∧ RR = rowF F N g) ∧ (¬ N ≤ 160 → OK = false ∧ OO = 0 ∧ RR = [])) := Lib.hid ⟨fun h => ⟨by rw [hOK, decide_eq_true h], by rw [hOO, if_pos h], by rw [hRR, if_pos h]⟩, fun h => ⟨by rw [hOK, decide_eq_false h], by rw [hOO, if_neg h], by rw [hRR, if_neg h]⟩⟩
    have HC := Lib.hid hr
    have t1 : IntKind.i64.wrap (T - 1 - F) = T - 1 - F := IntWalk.i64_in _ ⟨by omega, by omega⟩
    obtain ⟨F1, F2, F3, F4⟩ := hF
    have HNT := Lib.hid f1
    clear hr hOK hOO hRR hg hAll hok ho hrr hFF hTT hNN m1 m2 hw0 hsb k0 hz hz' a1 a2 a3 b1 b2 b3 h1 h2 hs f2 f3 f4 f5 r1 r2 r3 r4
    by_cases hN : N ≤ 160
    · have HR := Lib.hid (HOK.out.1 hN)
      have qn : ¬ (160 : Int) ≤ T - 1 - F := by omega
      have HN := Lib.hid hN
      clear hN f1
      go_enter Try.func46, Try.ntmps46
      go_wp2_with fail
      refine HC.out.mono ?_
      rintro e w1 ⟨rfl, k1⟩
      rw [← HW0.out] at k1
      have HK1 := Lib.hid k1
      have hat := BothAt.mk0 HSB.out HK0.out k1 F
      obtain ⟨p, hp⟩ : ∃ p, p = w1.heap.size := ⟨_, rfl⟩
      obtain ⟨wb, hwb⟩ : ∃ wb, wb = w1.alloc (.cells #[.int .i64 F, .slice none 0 0] 25) := ⟨_, rfl⟩
      rw [← hwb, ← hp] at hat
      have HAT := Lib.hid hat
      have HWB := Lib.hid hwb
      have HP := Lib.hid hp
      clear k1 hat hwb hp
      go_wp2
      rw [← HWB.out, ← HP.out]
      go_loopg [10, 29, 30, 31, 32, 33, 34, 35, 36, 37, 38, 39, 40, 41, 42, 43, 44, 45] N (fun g' s10 s29 s30 s31 s32 s33 s34 s35 s36 s37 s38 s39 s40 s41 s42 s43 s44 s45 wr => ∃ (m : Nat) (v3 : Value), m ≤ N ∧ g' = N - m ∧ s10 = .int .i64 (F + (m : Int)) ∧ BothAt w wr p o1 o2 0 F (.slice ao l1.length c) (.slice bo l2.length d) (.slice none 0 0) v3 (rowF F m g))
      case atStart => exact ⟨0, _, Nat.zero_le _, rfl, by simp, HAT.out⟩
      case round =>
        obtain ⟨m, v3, hml, rfl, rfl, hat⟩ := hrel
        by_cases hd : m < N
        · have HD := Lib.hid hd
          obtain ⟨a3, q3, rfl⟩ := hat.own.slice
          obtain ⟨L, hL⟩ : ∃ L, L = rowF F m g := ⟨_, rfl⟩
          rw [← hL] at hat
          have HLL := Lib.hid (show L.length ≤ 1000 by rw [hL, rowF_length]; have := HN.out; omega)
          have HDA := Lib.hid hat
          have HD0 := Lib.hid (hat.on ((Kept.refl (fun _ => False) wr).drew))
          obtain ⟨i, hi⟩ : ∃ i, i = F + (m : Int) := ⟨_, rfl⟩
          rw [← hi]
          have hnt := HNT.out
          have hiT : i ≤ T - 1 := by omega
          have HI := Lib.hid (show -1000000000000 ≤ i ∧ i ≤ 1000000000000 by omega)
          obtain ⟨g1, g2⟩ := HG.out i
          obtain ⟨A1, hA1⟩ : ∃ x, x = atN o1 l1 i := ⟨_, rfl⟩
          obtain ⟨A2, hA2⟩ : ∃ x, x = atN o2 l2 i := ⟨_, rfl⟩
          obtain ⟨Y, hY⟩ : ∃ Y, Y = g i := ⟨_, rfl⟩
          rw [← hA1, ← hA2, ← hY] at g1
          rw [← hY] at g2
          have u1 : IntKind.u64.wrap ((A1 : Int) + (A2 : Int)) = (Y : Int) := by rw [IntKind.wrap_u64]; omega
          have u2 : (A1 : Int) + (A2 : Int) = (Y : Int) := by omega
          have u3 : IntKind.u64.wrap (Y : Int) = (Y : Int) := by rw [IntKind.wrap_u64]; omega
          have ha1 := fun w' k => HA1.out w' k i HI.out
          have ha2 := fun w' k => HA2.out w' k i HI.out
          rw [← hA1] at ha1
          rw [← hA2] at ha2
          have HB1 := Lib.hid ha1
          have HB2 := Lib.hid ha2
          have HNEXT := Lib.hid (show rowF F (m + 1) g = L ++ [Y] by rw [rowF_succ, hL, hY, hi])
          have i1 : i + 1 = F + ((m + 1 : Nat) : Int) := by omega
          have i2 : IntKind.i64.wrap (i + 1) = i + 1 := IntWalk.i64_in _ ⟨by omega, by omega⟩
          have I1 := Lib.hid i1
          clear ha1 ha2 hA1 hA2 hY g1 g2 hL hd hnt i1 hat hi
          go_wp2
          refine AnyBut.start (S := fun w' => w'.cell? ⟨p, 1, none⟩ = some (.slice a3 (uvals L).length q3) ∧ (w'.cell? ⟨w.heap.size, 0, none⟩ = some (.int .i64 o1) ∧ w'.cell? ⟨w.heap.size, 1, none⟩ = some (.slice ao l1.length c)) ∧ (w'.cell? ⟨w.heap.size + 1, 0, none⟩ = some (.int .i64 o2) ∧ w'.cell? ⟨w.heap.size + 1, 1, none⟩ = some (.slice bo l2.length d))) (k := 12) (by kernel_rfl) ?_
          refine AnyBut.take (i := 0) (v := ?v0) rfl (by kernel_rfl) (by kernel_rfl) (by kernel_rfl) (by kernel_rfl) (fun _ _ _ h => h) (HD0.out.cells) (Or.inl ⟨by rfl, ?hy0⟩) ?r0
          case hy0 =>
            intro w hSw
            try dsimp only at hSw
            go_simp
            try with_reducible rfl
          try simp only [Act.put, List.setIfInBounds_toArray]
          refine AnyBut.take (i := 1) (v := ?v1) rfl (by kernel_rfl) (by kernel_rfl) (by kernel_rfl) (by kernel_rfl) (fun _ _ _ h => h) (HD0.out.cells) (Or.inl ⟨by rfl, ?hy1⟩) ?r1
          case hy1 =>
            intro w hSw
            try dsimp only at hSw
            go_simp
            try with_reducible rfl
          try simp only [Act.put]
          refine AnyBut.take (i := 2) (v := ?v2) rfl (by kernel_rfl) (by kernel_rfl) (by kernel_rfl) (by kernel_rfl) (fun _ _ _ h => h) (HD0.out.cells) (Or.inl ⟨by rfl, ?hy2⟩) ?r2
          case hy2 =>
            intro w hSw
            try dsimp only at hSw
            go_simp
            try with_reducible rfl
          try simp only [Act.put]
          refine AnyBut.take (i := 3) (v := ?v3) rfl (by kernel_rfl) (by kernel_rfl) (by kernel_rfl) (by kernel_rfl) (fun _ _ _ h => h) (HD0.out.cells) (Or.inl ⟨by rfl, ?hy3⟩) ?r3
          case hy3 =>
            intro w hSw
            try dsimp only at hSw
            go_simp
            try with_reducible rfl
          try simp only [Act.put]
          refine AnyBut.take (i := 5) (v := ?v5) rfl (by kernel_rfl) (by kernel_rfl) (by kernel_rfl) (by kernel_rfl) (fun _ _ _ h => h) (HD0.out.cells) (Or.inl ⟨by rfl, ?hy5⟩) ?r5
          case hy5 =>
            intro w hSw
            try dsimp only at hSw
            go_simp
            try with_reducible rfl
          try simp only [Act.put]
          refine AnyBut.take (i := 6) (v := ?v6) rfl (by kernel_rfl) (by kernel_rfl) (by kernel_rfl) (by kernel_rfl) (fun _ _ _ h => h) (HD0.out.cells) (Or.inl ⟨by rfl, ?hy6⟩) ?r6
          case hy6 =>
            intro w hSw
            try dsimp only at hSw
            go_simp
            try with_reducible rfl
          try simp only [Act.put]
          refine AnyBut.one (i := 4) (by kernel_rfl) rfl (fun K hK => ?_)
          go_simp
          go_wp2_with (go_at_call 51; refine (HB1.out _ (HV1.out.kept HD0.out.own.kept (fun _ _ x => x))).mono ?_; rintro e w4 ⟨rfl, k4⟩; have HD4 := Lib.hid (HD0.out.on k4); clear k4)
          refine hK.out _ _ (HD4.out.cells) ?_
          clear hK K
          try simp only [Act.put, List.setIfInBounds_toArray, List.set_cons_zero, List.set_cons_succ]
          refine AnyBut.one (i := 7) (by kernel_rfl) rfl (fun K hK => ?_)
          go_simp
          go_wp2_with (go_at_call 51; refine (HB2.out _ (HV2.out.kept HD4.out.own.kept (fun _ _ x => x))).mono ?_; rintro e w7 ⟨rfl, k7⟩; have HD7 := Lib.hid (HD4.out.on k7); clear k7)
          refine hK.out _ _ (HD7.out.cells) ?_
          clear hK K
          try simp only [Act.put, List.setIfInBounds_toArray, List.set_cons_zero, List.set_cons_succ]
          refine AnyBut.take (i := 8) (v := ?v8) rfl (by kernel_rfl) (by kernel_rfl) (by kernel_rfl) (by kernel_rfl) (fun _ _ _ h => h) (HD7.out.cells) (Or.inl ⟨by rfl, ?hy8⟩) ?r8
          case hy8 =>
            intro w hSw
            try dsimp only at hSw
            go_simp
            try with_reducible rfl
          try simp only [Act.put, List.setIfInBounds_toArray]
          refine AnyBut.one (i := 9) (by kernel_rfl) rfl (fun K hK => ?_)
          go_simp
          have HD9 := Lib.hid (HD7.out.on ((Kept.refl (fun _ => False) w7).alloc (.cells #[(.int .u64 (Y : Int))] 22)))
          have HSRC := Lib.hid (src_oneU w7 (.int .u64 (Y : Int)) rfl)
          refine hK.out _ _ (HD9.out.cells) ?_
          clear hK K
          try simp only [Act.put, List.setIfInBounds_toArray, List.set_cons_zero, List.set_cons_succ]
          refine AnyBut.one (i := 10) (by kernel_rfl) rfl (fun K hK => ?_)
          refine step_mineU (by rfl) (.tmp 35) (.tmp 43) (by rfl) w _ _ (by rfl) HD9.out.own _ [(.int .u64 (Y : Int))] (by rfl) HSRC.out (by have := HLL.out; simp only [List.length_singleton, uvals_length]; omega) ?_
          intro v8 w8 hm8 hk8 _
          have HM8 := Lib.hid hm8
          have hd8 := HD9.out.grow hk8
          have HD8 := Lib.hid hd8
          obtain ⟨a8, c8, rfl⟩ := hm8.slice
          obtain ⟨⟨_, g1⟩, g2, g3⟩ := hd8.b4.c
          clear hm8 hk8 hd8
          refine hK.out _ _ (HD8.out.cells) ?_
          clear hK K
          try simp only [Act.put, List.setIfInBounds_toArray]
          refine AnyBut.take (i := 11) (v := ?v11) rfl (by kernel_rfl) (by kernel_rfl) (by kernel_rfl) (by kernel_rfl) (fun _ _ _ h => h) (HD8.out.cells) (Or.inl ⟨by rfl, ?hy11⟩) ?r11
          case hy11 =>
            intro w hSw
            try dsimp only at hSw
            go_simp
            try with_reducible rfl
          try simp only [Act.put]
          refine AnyBut.last (by kernel_rfl) rfl (by kernel_rfl) (fun K hK => ?_)
          go_simp
          refine hK.out _ _ ?_
          clear hK K
          try simp only [Act.put, List.setIfInBounds_toArray, List.set_cons_zero, List.set_cons_succ]
          go_wp2
          have hm8 := HM8.out
          rw [List.length_append, List.length_singleton] at hm8
          have HF := Lib.hid (BothBx.set1 (l' := L ++ [Y]) HD8.out (by rw [uvals_append]; exact hm8))
          clear hm8
          go_roundg (N - (m + 1))
          case measure => have := HD.out; omega
          case rel => exact ⟨m + 1, _, HD.out, rfl, by rw [I1.out], by rw [HNEXT.out]; exact HF.out⟩
        · obtain rfl : m = N := by omega
          have qT : ¬ F + (m : Int) ≤ T - 1 := by have := HNT.out; omega
          obtain ⟨a3, q3, rfl⟩ := hat.own.slice
          have HA := Lib.hid hat
          obtain ⟨⟨p0, p1⟩, _⟩ := hat.bx.b4.c
          obtain ⟨⟨r0, r1⟩, g0, g1⟩ := hat.bx.r.c
          clear hat hd
          go_wp2
          refine side2_end (o := F) (v := .slice a3 (uvals (rowF F m g)).length q3) Try.results46 rfl rfl rfl (HA.out.bx.r.set _ _) ?_
          obtain ⟨r1, r2, r3⟩ := HR.out
          rw [r1, r2, r3]
          exact ⟨_, rfl, HA.out.own.setBox HA.out.bx.r (by decide) (by omega) _ _, two_kept HA.out.own.kept (by omega)⟩
    · have HR := Lib.hid (HOK.out.2 hN)
      have qn : (160 : Int) ≤ T - 1 - F := by omega
      clear hN f1
      go_enter Try.func46, Try.ntmps46
      go_wp2_with fail
      refine HC.out.mono ?_
      rintro e w1 ⟨rfl, k1⟩
      rw [← HW0.out] at k1
      have HK1 := Lib.hid (HK0.out.trans k1)
      have hx := HSB.out.on k1
      have HX := Lib.hid hx
      obtain ⟨⟨x0, x1⟩, g0, g1⟩ := hx.r.c
      clear k1 hx
      go_wp2
      refine side2_end (o := 0) (v := .slice none 0 0) Try.results46 rfl rfl rfl (HX.out.r.set 0 (.slice none 0 0)) ?_
      obtain ⟨r1, r2, r3⟩ := HR.out
      rw [r1, r2, r3]
      exact ⟨_, rfl, Mine.nil' _ (two_kept HK1.out (by omega)), two_kept HK1.out (by omega)⟩
end Go.Proofs.Ytbjpcddnjndjlaa
