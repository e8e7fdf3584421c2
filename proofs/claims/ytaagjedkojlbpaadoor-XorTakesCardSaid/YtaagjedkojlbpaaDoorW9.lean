/- package xor: Get. -/
import Derived.Test.YtaagjedkojlbpaaDoorW8
namespace Go.Proofs.YtaagjedkojlbpaaDoor
open Go.RowKit
attribute [local go_sem ↓] Go.wp_at_zero Go.wp_at_succ

theorem xnextP_any (B p r : Nat) (v : Value) (bs : List Bool) (t n last f s : Nat) (w : World) (HR : BrAt w B p v bs t) (HX : XRow w r n last f s) (hB : 2 < p) (hrp : r ≠ p) (HT : BruTab w) (hl : bs.length ≤ 100000000) (h0 : n = 0 → last = 0 ∧ f = 0 ∧ s = 0) (hok : okW f s) :
    ∃ X N E f' s', X < 18446744073709551616 ∧ getP n last f s (bs.drop t) = (if E = 0 then last ^^^ X else 0, N, E, f', s') ∧
      Calls Tryd.prog 66 #[.pointer (some ⟨r, 0, none⟩), .pointer (some ⟨p, 0, none⟩)] w (XNx w B p v bs t X N E f' s') := by
  by_cases hn : n = 0
  · obtain ⟨rfl, rfl, rfl⟩ := h0 hn
    subst hn
    have h := xnext_zero B p r v bs t 0 0 0 w HR HX hB hrp HT hl
    refine ⟨_, _, _, _, _, ?_, ?_, h⟩
    · unfold getZ
      split
      · decide
      · exact Nat.lt_of_lt_of_le (numB_two _ 64) (by decide)
    · unfold getP getZ
      rw [if_pos rfl]
      by_cases hlt : (bs.drop t).length < 64
      · rw [if_pos hlt, if_pos hlt]; rfl
      · rw [if_neg hlt, if_neg hlt]
        simp
  · have h := xnext_any B p r v bs t n last f s w HR HX hB hrp HT hl (by omega) hok
    refine ⟨_, _, _, _, _, (getX_le f s (bs.drop t) hok).2.1, ?_, h⟩
    unfold getP
    rw [if_neg hn]

theorem XRow.set {w : World} {r n last f s : Nat} (h : XRow w r n last f s) (n' last' f' s' : Nat) :
    XRow ((((w.setCell ⟨r, 0, none⟩ (.int .i64 (n' : Int))).setCell ⟨r, 1, none⟩ (.int .u64 (last' : Int))).setCell ⟨r, 2, none⟩ (.int .i64 (f' : Int))).setCell ⟨r, 3, none⟩ (.int .i64 (s' : Int))) r n' last' f' s' ∧
    Kept (fun k => k = r) w ((((w.setCell ⟨r, 0, none⟩ (.int .i64 (n' : Int))).setCell ⟨r, 1, none⟩ (.int .u64 (last' : Int))).setCell ⟨r, 2, none⟩ (.int .i64 (f' : Int))).setCell ⟨r, 3, none⟩ (.int .i64 (s' : Int))) := by
  refine ⟨?_, ((((Kept.refl (fun k => k = r) w).setCell (p := ⟨r, 0, none⟩) (fun _ => rfl) _).setCell (p := ⟨r, 1, none⟩) (fun _ => rfl) _).setCell (p := ⟨r, 2, none⟩) (fun _ => rfl) _).setCell (p := ⟨r, 3, none⟩) (fun _ => rfl) _⟩
  unfold XRow at *
  simp [World.setCell, Array.getElem?_modify, h]

/-- What taking a float leaves. -/
def XGot (w : World) (B p r : Nat) (v : Value) (bs : List Bool) (t' n last f s V E : Nat) (e : Ending) (w' : World) : Prop :=
  e = .returned (.tuple #[.int .u64 (V : Int), .int .i64 (E : Int)]) ∧ BrAt w' B p v bs t' ∧ XRow w' r n last f s ∧ Kept (fun k => k = p ∨ k = r) w w'
set_option maxHeartbeats 4000000 in
set_option maxRecDepth 100000 in
theorem xget_no (B p r : Nat) (v : Value) (bs : List Bool) (t n last f s E : Nat) (w : World) (HR : BrAt w B p v bs t) (HX : XRow w r n last f s) (hB : B ≤ w.heap.size) (HT : BruTab w) (hl : bs.length ≤ 100000000) (h0 : n = 0 → last = 0 ∧ f = 0 ∧ s = 0) (hok : okW f s)
    (hE : E ≠ 0) (hg : (getP n last f s (bs.drop t)).2.2.1 = E) :
    Calls Tryd.prog 41 #[.pointer (some ⟨r, 0, none⟩), .pointer (some ⟨p, 0, none⟩)] w (XGot w B p r v bs t n last f s 0 E) := by
  obtain ⟨ao, cp, rfl⟩ := ownsRow_slice HR.owns
  have hc0 := HR.c0
  have hc1 := HR.c1
  have hc2 := HR.c2
  have K0 : Kept (fun _ => False) w (w.alloc (.cells #[.slice ao (packB bs).length cp, .int .i64 bs.length, .int .i64 t] 82)) := (Kept.refl _ w).alloc _
  have hxl := HX.lt
  obtain ⟨X, N, E', f', s', _, hg', hc⟩ := xnextP_any B w.heap.size r _ bs t n last f s _ (HR.copy hB) (HX.kept K0 (fun x => x)) HT.lt (by omega) (HT.kept K0) hl h0 hok
  rw [hg'] at hg
  have hEE : E' = E := hg
  subst hEE
  have HC := Lib.hid hc
  have FIN := Lib.hid fun w2 (h : Kept (fun k => k = w.heap.size) (w.alloc (.cells #[.slice ao (packB bs).length cp, .int .i64 bs.length, .int .i64 t] 82)) w2) => K0.new h (Nat.le_refl _)
  have FINE := Lib.hid fun w2 (h : Kept (fun _ => False) w w2) => show XGot w B p r (.slice ao (packB bs).length cp) bs t n last f s 0 E' (.returned (.tuple #[.int .u64 0, .int .i64 (E' : Int)])) w2 from ⟨rfl, HR.keptF h, HX.kept h (fun x => x), h.mono (fun _ _ x => x.elim)⟩
  have e0 : ((E' : Int) != 0) = true := by simp; omega
  unfold XNx winV at HC
  clear HR HX HT K0 hc hg hg' h0 hok hE
  go_enter Tryd.func41, Tryd.ntmps41
  go_wp2_with fail
  refine HC.out.mono ?_
  rintro e w1 ⟨V', f'', s'', rfl, _, _, k⟩
  have K1 := Lib.hid (FIN.out _ k)
  clear k
  go_wp2
  go_ret2
  exact FINE.out _ (K1.out.alloc _)

set_option maxHeartbeats 4000000 in
set_option maxRecDepth 100000 in
theorem xget_yes (B p r : Nat) (v : Value) (bs : List Bool) (t n last f s V N f' s' : Nat) (w : World) (HR : BrAt w B p v bs t) (HX : XRow w r n last f s) (hB : B ≤ w.heap.size) (hrp : r ≠ p) (HT : BruTab w) (hl : bs.length ≤ 100000000) (h0 : n = 0 → last = 0 ∧ f = 0 ∧ s = 0) (hok : okW f s)
    (hn : n ≤ 1000000) (hlast : last < 18446744073709551616) (hg : getP n last f s (bs.drop t) = (V, N, 0, f', s')) :
    Calls Tryd.prog 41 #[.pointer (some ⟨r, 0, none⟩), .pointer (some ⟨p, 0, none⟩)] w (XGot w B p r v bs (t + N) (n + 1) V f' s' V 0) := by
  obtain ⟨ao, cp, rfl⟩ := ownsRow_slice HR.owns
  have hc0 := HR.c0
  have hc1 := HR.c1
  have hc2 := HR.c2
  have hpl := HR.lt
  have K0 : Kept (fun _ => False) w (w.alloc (.cells #[.slice ao (packB bs).length cp, .int .i64 bs.length, .int .i64 t] 82)) := (Kept.refl _ w).alloc _
  have hxl := HX.lt
  obtain ⟨X, N', E', f2, s2, hX, hg', hc⟩ := xnextP_any B w.heap.size r _ bs t n last f s _ (HR.copy hB) (HX.kept K0 (fun x => x)) HT.lt (by omega) (HT.kept K0) hl h0 hok
  rw [hg'] at hg
  injection hg with hV hg
  injection hg with hN hg
  injection hg with hE hg
  injection hg with hf hs
  subst hE hN hf hs
  rw [if_pos rfl] at hV
  have hx := u64_xor_nat last X hlast hX
  rw [hV] at hx
  have HC := Lib.hid hc
  have FIN := Lib.hid fun w2 (h : Kept (fun k => k = w.heap.size) (w.alloc (.cells #[.slice ao (packB bs).length cp, .int .i64 bs.length, .int .i64 t] 82)) w2) => K0.new h (Nat.le_refl _)
  have HRR := Lib.hid HR
  have HXX := Lib.hid HX
  have HPL := Lib.hid hpl
  have HXL := Lib.hid hxl
  have HRP := Lib.hid hrp
  have n1 : IntKind.i64.wrap ((n : Int) + 1) = ((n + 1 : Nat) : Int) := by rw [IntWalk.i64_in _ ⟨by omega, by omega⟩]; omega
  obtain ⟨n', hn'⟩ : ∃ n', n' = n + 1 := ⟨_, rfl⟩
  rw [← hn'] at n1 ⊢
  unfold XNx winV at HC
  clear HR HX HT K0 hc hg' h0 hok hV hrp hn hn' hlast hX
  go_enter Tryd.func41, Tryd.ntmps41
  go_wp2_with fail
  refine HC.out.mono ?_
  rintro e w1 ⟨V', f'', s'', rfl, hq, ⟨t', hr1, ht1⟩, k⟩
  obtain ⟨hq1, hq2, hq3⟩ := hq (by trivial)
  subst hq1 hq2 hq3
  have ht2 := ht1 (by trivial)
  have HTE := Lib.hid ht2
  have K1 := Lib.hid (FIN.out _ k)
  have hs1 := k.size
  rw [show (w.alloc (.cells #[.slice ao (packB bs).length cp, .int .i64 bs.length, .int .i64 t] 82)).heap.size = w.heap.size + 1 by simp] at hs1
  obtain ⟨w2, hw2⟩ : ∃ w', w' = w1.alloc (.cells #[.int .i64 (f'' : Int), .int .i64 (s'' : Int)] 91) := ⟨_, rfl⟩
  have k2 : Kept (fun _ => False) w1 w2 := by rw [hw2]; exact (Kept.refl _ _).alloc _
  have K2 := Lib.hid (K1.out.trans k2)
  have hb2 : WinBox w2 w1.heap.size f'' s'' := by rw [hw2]; exact WinBox.new w1 _ _
  have hr2 := hr1.keptF k2
  have hp2 := HRR.out.keptF K2.out
  have kA := fun (o : Obj) => (Kept.refl (fun _ => False) w1).alloc o
  have r0 := fun o => (hr1.keptF (kA o)).c0
  have r1 := fun o => (hr1.keptF (kA o)).c1
  have r2 := fun o => (hr1.keptF (kA o)).c2
  have hp1 := HRR.out.keptF K1.out
  have s0 := fun o => (hp1.keptF (kA o)).c0
  have s1 := fun o => (hp1.keptF (kA o)).c1
  have s2 := fun o => (hp1.keptF (kA o)).c2
  have g0 := fun o => (hp1.keptF (kA o)).free 0
  have g1 := fun o => (hp1.keptF (kA o)).free 1
  have g2 := fun o => (hp1.keptF (kA o)).free 2
  have HP3 := Lib.hid (hp2.put3 hr2.taken)
  have HB2 := Lib.hid hb2
  have HQ := Lib.hid (show ¬ w1.heap.size = p ∧ ¬ w1.heap.size = r from ⟨by have := HPL.out; omega, by have := HXL.out; omega⟩)
  have HW2 := Lib.hid hw2
  clear ht2 hq ht1 hr1 k hs1 hw2 k2 hb2 hr2 hp2 hp1 kA
  go_wp2
  rw [← HW2.out]
  refine AnyBut.start (S := fun w' => (w'.cell? ⟨r, 0, none⟩ = some (.int .i64 (n : Int)) ∧ w'.cell? ⟨r, 1, none⟩ = some (.int .u64 (last : Int))) ∧ (w'.cell? ⟨w1.heap.size, 0, none⟩ = some (.int .i64 (f'' : Int)) ∧ w'.cell? ⟨w1.heap.size, 1, none⟩ = some (.int .i64 (s'' : Int)))) (k := 15) (by kernel_rfl) ?_
  obtain ⟨w3, hw3⟩ : ∃ w', w' = (((w2.setCell ⟨p, 0, none⟩ (.slice ao (packB bs).length cp)).setCell ⟨p, 1, none⟩ (.int .i64 bs.length)).setCell ⟨p, 2, none⟩ (.int .i64 (t' : Int))) := ⟨_, rfl⟩
  have HP3 := Lib.hid HP3.out
  rw [← hw3] at HP3
  rw [← hw3]
  clear hw3
  obtain ⟨wd, hwd⟩ : ∃ w', w' = w3.drew := ⟨_, rfl⟩
  have KD : Kept (fun _ => False) w3 wd := by rw [hwd]; exact (Kept.refl _ _).drew
  rw [← hwd]
  clear hwd
  have k3 := HP3.out.2
  have HX3 := Lib.hid (((HXX.out.kept K2.out (fun x => x)).kept k3 HRP.out).kept KD (fun x => x))
  have HS3 := Lib.hid (And.intro (And.intro HX3.out.c.1 HX3.out.c.2.1) (((HB2.out.same k3 HQ.out.1).same KD (fun x => x)).c))
  have KD := Lib.hid KD
  clear k3
  refine AnyBut.take (i := 0) (v := ?v1) rfl (by kernel_rfl) (by kernel_rfl) (by kernel_rfl) (by kernel_rfl) (fun _ _ _ h => h) (HS3.out) (Or.inl ⟨by kernel_rfl, ?hy1⟩) ?r1
  case hy1 =>
    intro w hSw
    try dsimp only at hSw
    go_simp
    try with_reducible rfl
  try simp only [Act.put, List.getElem_toArray, List.getElem_cons_zero, List.setIfInBounds_toArray, List.set_cons_zero, List.set_cons_succ]
  refine AnyBut.take (i := 1) (v := ?v2) rfl (by kernel_rfl) (by kernel_rfl) (by kernel_rfl) (by kernel_rfl) (fun _ _ _ h => h) (HS3.out) (Or.inl ⟨by kernel_rfl, ?hy2⟩) ?r2
  case hy2 =>
    intro w hSw
    try dsimp only at hSw
    go_simp
    try with_reducible rfl
  try simp only [Act.put, List.getElem_toArray, List.getElem_cons_succ, List.getElem_cons_zero, List.setIfInBounds_toArray, List.set_cons_zero, List.set_cons_succ]
  refine AnyBut.take (i := 2) (v := ?v3) rfl (by kernel_rfl) (by kernel_rfl) (by kernel_rfl) (by kernel_rfl) (fun _ _ _ h => h) (HS3.out) (Or.inl ⟨by kernel_rfl, ?hy3⟩) ?r3
  case hy3 =>
    intro w hSw
    try dsimp only at hSw
    go_simp
    try with_reducible rfl
  try simp only [Act.put, List.getElem_toArray, List.getElem_cons_succ, List.getElem_cons_zero, List.setIfInBounds_toArray, List.set_cons_zero, List.set_cons_succ]
  refine AnyBut.take (i := 3) (v := ?v4) rfl (by kernel_rfl) (by kernel_rfl) (by kernel_rfl) (by kernel_rfl) (fun _ _ _ h => h) (HS3.out) (Or.inl ⟨by kernel_rfl, ?hy4⟩) ?r4
  case hy4 =>
    intro w hSw
    try dsimp only at hSw
    go_simp
    try with_reducible rfl
  try simp only [Act.put, List.getElem_toArray, List.getElem_cons_succ, List.getElem_cons_zero, List.setIfInBounds_toArray, List.set_cons_zero, List.set_cons_succ]
  refine AnyBut.take (i := 4) (v := ?v5) rfl (by kernel_rfl) (by kernel_rfl) (by kernel_rfl) (by kernel_rfl) (fun _ _ _ h => h) (HS3.out) (Or.inl ⟨by kernel_rfl, ?hy5⟩) ?r5
  case hy5 =>
    intro w hSw
    try dsimp only at hSw
    go_simp
    try with_reducible rfl
  try simp only [Act.put, List.getElem_toArray, List.getElem_cons_succ, List.getElem_cons_zero, List.setIfInBounds_toArray, List.set_cons_zero, List.set_cons_succ]
  refine AnyBut.take (i := 5) (v := ?v6) rfl (by kernel_rfl) (by kernel_rfl) (by kernel_rfl) (by kernel_rfl) (fun _ _ _ h => h) (HS3.out) (Or.inl ⟨by kernel_rfl, ?hy6⟩) ?r6
  case hy6 =>
    intro w hSw
    try dsimp only at hSw
    go_simp
    try with_reducible rfl
  try simp only [Act.put, List.getElem_toArray, List.getElem_cons_succ, List.getElem_cons_zero, List.setIfInBounds_toArray, List.set_cons_zero, List.set_cons_succ]
  refine AnyBut.take (i := 6) (v := ?v7) rfl (by kernel_rfl) (by kernel_rfl) (by kernel_rfl) (by kernel_rfl) (fun _ _ _ h => h) (HS3.out) (Or.inl ⟨by kernel_rfl, ?hy7⟩) ?r7
  case hy7 =>
    intro w hSw
    try dsimp only at hSw
    go_simp
    try with_reducible rfl
  try simp only [Act.put, List.getElem_toArray, List.getElem_cons_succ, List.getElem_cons_zero, List.setIfInBounds_toArray, List.set_cons_zero, List.set_cons_succ]
  refine AnyBut.take (i := 7) (v := ?v8) rfl (by kernel_rfl) (by kernel_rfl) (by kernel_rfl) (by kernel_rfl) (fun _ _ _ h => h) (HS3.out) (Or.inl ⟨by kernel_rfl, ?hy8⟩) ?r8
  case hy8 =>
    intro w hSw
    try dsimp only at hSw
    go_simp
    try with_reducible rfl
  try simp only [Act.put, List.getElem_toArray, List.getElem_cons_succ, List.getElem_cons_zero, List.setIfInBounds_toArray, List.set_cons_zero, List.set_cons_succ]
  refine AnyBut.take (i := 8) (v := ?v9) rfl (by kernel_rfl) (by kernel_rfl) (by kernel_rfl) (by kernel_rfl) (fun _ _ _ h => h) (HS3.out) (Or.inl ⟨by kernel_rfl, ?hy9⟩) ?r9
  case hy9 =>
    intro w hSw
    try dsimp only at hSw
    go_simp
    try with_reducible rfl
  try simp only [Act.put, List.getElem_toArray, List.getElem_cons_succ, List.getElem_cons_zero, List.setIfInBounds_toArray, List.set_cons_zero, List.set_cons_succ]
  refine AnyBut.take (i := 9) (v := ?v10) rfl (by kernel_rfl) (by kernel_rfl) (by kernel_rfl) (by kernel_rfl) (fun _ _ _ h => h) (HS3.out) (Or.inl ⟨by kernel_rfl, ?hy10⟩) ?r10
  case hy10 =>
    intro w hSw
    try dsimp only at hSw
    go_simp
    try with_reducible rfl
  try simp only [Act.put, List.getElem_toArray, List.getElem_cons_succ, List.getElem_cons_zero, List.setIfInBounds_toArray, List.set_cons_zero, List.set_cons_succ]
  refine AnyBut.take (i := 10) (v := ?v11) rfl (by kernel_rfl) (by kernel_rfl) (by kernel_rfl) (by kernel_rfl) (fun _ _ _ h => h) (HS3.out) (Or.inl ⟨by kernel_rfl, ?hy11⟩) ?r11
  case hy11 =>
    intro w hSw
    try dsimp only at hSw
    go_simp
    try with_reducible rfl
  try simp only [Act.put, List.getElem_toArray, List.getElem_cons_succ, List.getElem_cons_zero, List.setIfInBounds_toArray, List.set_cons_zero, List.set_cons_succ]
  refine AnyBut.take (i := 11) (v := ?v12) rfl (by kernel_rfl) (by kernel_rfl) (by kernel_rfl) (by kernel_rfl) (fun _ _ _ h => h) (HS3.out) (Or.inl ⟨by kernel_rfl, ?hy12⟩) ?r12
  case hy12 =>
    intro w hSw
    try dsimp only at hSw
    go_simp
    try with_reducible rfl
  try simp only [Act.put, List.getElem_toArray, List.getElem_cons_succ, List.getElem_cons_zero, List.setIfInBounds_toArray, List.set_cons_zero, List.set_cons_succ]
  refine AnyBut.take (i := 12) (v := ?v13) rfl (by kernel_rfl) (by kernel_rfl) (by kernel_rfl) (by kernel_rfl) (fun _ _ _ h => h) (HS3.out) (Or.inl ⟨by kernel_rfl, ?hy13⟩) ?r13
  case hy13 =>
    intro w hSw
    try dsimp only at hSw
    go_simp
    try with_reducible rfl
  try simp only [Act.put, List.getElem_toArray, List.getElem_cons_succ, List.getElem_cons_zero, List.setIfInBounds_toArray, List.set_cons_zero, List.set_cons_succ]
  refine AnyBut.take (i := 13) (v := ?v14) rfl (by kernel_rfl) (by kernel_rfl) (by kernel_rfl) (by kernel_rfl) (fun _ _ _ h => h) (HS3.out) (Or.inl ⟨by kernel_rfl, ?hy14⟩) ?r14
  case hy14 =>
    intro w hSw
    try dsimp only at hSw
    go_simp
    try with_reducible rfl
  try simp only [Act.put, List.getElem_toArray, List.getElem_cons_succ, List.getElem_cons_zero, List.setIfInBounds_toArray, List.set_cons_zero, List.set_cons_succ]
  refine AnyBut.take (i := 14) (v := ?v15) rfl (by kernel_rfl) (by kernel_rfl) (by kernel_rfl) (by kernel_rfl) (fun _ _ _ h => h) (HS3.out) (Or.inl ⟨by kernel_rfl, ?hy15⟩) ?r15
  case hy15 =>
    intro w hSw
    try dsimp only at hSw
    go_simp
    try with_reducible rfl
  try simp only [Act.put, List.getElem_toArray, List.getElem_cons_succ, List.getElem_cons_zero, List.setIfInBounds_toArray, List.set_cons_zero, List.set_cons_succ]
  refine AnyBut.last (by kernel_rfl) rfl (by kernel_rfl) (fun K hK => ?_)
  obtain ⟨x0, x1, x2, x3⟩ := HX3.out.c
  have y0 := HX3.out.f 0
  have y1 := HX3.out.f 1
  have y2 := HX3.out.f 2
  have y3 := HX3.out.f 3
  go_simp
  go_wp2
  refine hK.out _ _ ?_
  clear hK K
  try simp only [Act.put, List.getElem_toArray, List.getElem_cons_succ, List.getElem_cons_zero, List.setIfInBounds_toArray, List.set_cons_zero, List.set_cons_succ]
  obtain ⟨w4, hw4⟩ : ∃ w', w' = ((((wd.setCell ⟨r, 0, none⟩ (.int .i64 (n' : Int))).setCell ⟨r, 1, none⟩ (.int .u64 (V : Int))).setCell ⟨r, 2, none⟩ (.int .i64 (f'' : Int))).setCell ⟨r, 3, none⟩ (.int .i64 (s'' : Int))) := ⟨_, rfl⟩
  have hx4 := HX3.out.set n' V f'' s''
  rw [← hw4] at hx4 ⊢
  have HX4 := Lib.hid hx4
  obtain ⟨d0, d1, d2, d3⟩ := hx4.1.c
  clear hw4 hx4 x0 x1 x2 x3 y0 y1 y2 y3
  go_wp2
  go_ret2
  have hrd := (HP3.out.1).keptF KD.out
  have n4 := hrd.apartT HX3.out (by decide) (by decide)
  exact ⟨rfl, by rw [← HTE.out]; exact hrd.kept HX4.out.2 (fun e => n4.1 e.symm) (fun k e x => n4.2 (by rw [e, x])), HX4.out.1, ((((K2.out.mono (fun _ _ x => x.elim)).trans (HP3.out.2.mono (fun _ _ x => .inl x)))).trans (KD.out.mono (fun _ _ x => x.elim))).trans (HX4.out.2.mono (fun _ _ x => .inr x))⟩
end Go.Proofs.YtaagjedkojlbpaaDoor
