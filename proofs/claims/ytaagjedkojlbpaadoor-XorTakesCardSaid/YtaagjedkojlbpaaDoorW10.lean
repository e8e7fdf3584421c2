/- package xor: Put, NewRow, Len, Clone, Cost. -/
import Derived.Test.YtaagjedkojlbpaaDoorW4
import Derived.Test.YtaagjedkojlbpaaDoorW7
import Derived.Test.YtaagjedkojlbpaaDoorVX
namespace Go.Proofs.YtaagjedkojlbpaaDoor
open Go.RowKit
attribute [local go_sem ↓] Go.wp_at_zero Go.wp_at_succ

theorem XRow.set10 {w : World} {r n last f s : Nat} (h : XRow w r n last f s) (n' last' : Nat) :
    XRow ((w.setCell ⟨r, 1, none⟩ (.int .u64 (last' : Int))).setCell ⟨r, 0, none⟩ (.int .i64 (n' : Int))) r n' last' f s ∧ Kept (fun k => k = r) w ((w.setCell ⟨r, 1, none⟩ (.int .u64 (last' : Int))).setCell ⟨r, 0, none⟩ (.int .i64 (n' : Int))) := by
  refine ⟨?_, ((Kept.refl (fun k => k = r) w).setCell (p := ⟨r, 1, none⟩) (fun _ => rfl) _).setCell (p := ⟨r, 0, none⟩) (fun _ => rfl) _⟩
  unfold XRow at *
  simp [World.setCell, Array.getElem?_modify, h]
theorem XRow.set23 {w : World} {r n last f s : Nat} (h : XRow w r n last f s) (f' s' : Nat) :
    XRow ((w.setCell ⟨r, 2, none⟩ (.int .i64 (f' : Int))).setCell ⟨r, 3, none⟩ (.int .i64 (s' : Int))) r n last f' s' ∧ Kept (fun k => k = r) w ((w.setCell ⟨r, 2, none⟩ (.int .i64 (f' : Int))).setCell ⟨r, 3, none⟩ (.int .i64 (s' : Int))) := by
  refine ⟨?_, ((Kept.refl (fun k => k = r) w).setCell (p := ⟨r, 2, none⟩) (fun _ => rfl) _).setCell (p := ⟨r, 3, none⟩) (fun _ => rfl) _⟩
  unfold XRow at *
  simp [World.setCell, Array.getElem?_modify, h]
/-- What putting a float down leaves: r is the row's block, p the writer's. -/
def XPut (w : World) (B p r : Nat) (v : Value) (bs : List Bool) (n last f s x : Nat) (e : Ending) (w' : World) : Prop :=
  e = .returned (.tuple #[]) ∧ XRow w' r (n + 1) x (nextP n last f s x).2.1 (nextP n last f s x).2.2 ∧ ∃ v', BwAt w' B p v' (bs ++ (nextP n last f s x).1) ∧ (v'.ownBlock = v.ownBlock ∨ ∃ k, v'.ownBlock = some k ∧ w.heap.size ≤ k) ∧ Kept (fun k => k = p ∨ v.ownBlock = some k ∨ k = r) w w'
theorem xput_fin {w w1 w2 : World} {B p r : Nat} {v : Value} {bs : List Bool} {n last f s x n0 l0 f0 s0 : Nat} (HR : XRow w r n0 l0 f0 s0) (hrp : r ≠ p) (hrv : v.ownBlock ≠ some r)
    (hto : BwTo w w1 B p v (bs ++ (nextP n last f s x).1)) (h2 : XRow w2 r (n + 1) x (nextP n last f s x).2.1 (nextP n last f s x).2.2 ∧ Kept (fun k => k = r) w1 w2) : XPut w B p r v bs n last f s x (.returned (.tuple #[])) w2 := by
  obtain ⟨v1, h1, a1, k1⟩ := hto
  refine ⟨rfl, h2.1, v1, h1.kept h2.2 (fun e => hrp e.symm) ?_, a1, (k1.mono ?_).trans (h2.2.mono fun k _ e => .inr (.inr e))⟩
  · rintro k e rfl
    rcases a1 with a1 | ⟨g, e2, hg⟩
    · exact hrv (a1 ▸ e)
    · rw [e2] at e; cases e; have := HR.lt; omega
  · rintro k _ (h | h)
    · exact .inl h
    · exact .inr (.inl h)
theorem xput_mid {w w1 : World} {B p r : Nat} {v : Value} {bs : List Bool} {n last f s : Nat} (HR : XRow w r n last f s) (hrp : r ≠ p) (hrv : v.ownBlock ≠ some r) (hto : BwTo w w1 B p v bs) : XRow w1 r n last f s := by
  obtain ⟨v1, h1, a1, k1⟩ := hto
  exact HR.kept k1 (fun e => e.elim hrp hrv)

set_option maxHeartbeats 4000000 in
set_option maxRecDepth 100000 in
theorem xrowPut_any (B p r : Nat) (v : Value) (bs : List Bool) (n last f s x : Nat) (w : World) (HW : BwAt w B p v bs) (HX : XRow w r n last f s) (hB0 : 2 < B) (hB : B ≤ w.heap.size) (HT : BruTab w) (hok : okW f s) (hn : n ≤ 1000000) (hlast : last < 18446744073709551616) (hx : x < 18446744073709551616) (hl : bs.length ≤ 900000000) :
    Calls Tryd.prog 37 #[.pointer (some ⟨r, 0, none⟩), .pointer (some ⟨p, 0, none⟩), .int .u64 x] w (XPut w B p r v bs n last f s x) := by
  obtain ⟨hrp, hrv⟩ := HW.apartT HX (by decide) (by decide)
  have HF := Lib.hid fun w1 w2 (hto : BwTo w w1 B p v (bs ++ (nextP n last f s x).1)) h2 => xput_fin (w2 := w2) HX hrp hrv hto h2
  have HM := Lib.hid fun w1 bs1 (hto : BwTo w w1 B p v bs1) => xput_mid HX hrp hrv hto
  obtain ⟨c0, c1, c2, c3⟩ := HX.c
  have n1 : IntKind.i64.wrap ((n : Int) + 1) = ((n + 1 : Nat) : Int) := by rw [IntWalk.i64_in _ ⟨by omega, by omega⟩]; omega
  obtain ⟨n', hn'⟩ : ∃ n', n' = n + 1 := ⟨_, rfl⟩
  by_cases h0 : n = 0
  · subst h0
    have hb : nextP 0 last f s x = (bitsN x 64, f, s) := if_pos rfl
    rw [hb] at HF
    have HP := Lib.hid (bput_yes B p v bs x 64 w HW hB (by omega) (by rw [← p64]; exact hx) (by omega))
    clear HW HX HT hrp hrv hok hlast hx hl hb n1 hn' hn
    go_enter Tryd.func37, Tryd.ntmps37
    go_wp2_with fail
    refine HP.out.mono ?_
    rintro e w1 ⟨rfl, hto⟩
    have HTO := Lib.hid hto
    have hx1 := HM.out _ _ hto
    have HX1 := Lib.hid hx1
    obtain ⟨x0, x1, x2, x3⟩ := hx1.c
    have y0 := hx1.f 0
    have y1 := hx1.f 1
    clear hto hx1 c0 c1 c2 c3
    go_wp2
    go_end0
    exact HF.out _ _ HTO.out (HX1.out.set10 1 x)
  · have hb : nextP n last f s x = putX f s (x ^^^ last) := if_neg h0
    rw [hb] at HF
    rw [← hn'] at n1 HF
    clear hn'
    have n0 : ((n : Int) == 0) = false := by simp; omega
    have hxor := u64_xor_nat x last hx hlast
    obtain ⟨wd, hwd⟩ : ∃ w', w' = w.drew := ⟨_, rfl⟩
    have K : Kept (fun _ => False) w wd := by rw [hwd]; exact (Kept.refl _ w).drew
    have HWD := Lib.hid hwd
    have hc := xput_any B p v bs f s (x ^^^ last) wd (HW.keptF K) hB0 (Nat.le_trans hB K.size) hok (xor_lt x last hx hlast) hl (HT.kept K)
    obtain ⟨X, hX⟩ : ∃ X, X = x ^^^ last := ⟨_, rfl⟩
    rw [← hX] at hc HF hxor
    obtain ⟨P, hP⟩ : ∃ P, P = putX f s X := ⟨_, rfl⟩
    rw [← hP] at hc HF
    obtain ⟨bits, f', s'⟩ := P
    simp only at hc HF
    have hd : ∀ w2 l2, BwTo wd w2 B p v l2 → BwTo w w2 B p v l2 := by
      rintro w2 l2 ⟨v2, a, b, c⟩
      refine ⟨v2, a, ?_, K.mono (fun _ _ x => x.elim) |>.trans c⟩
      rcases b with b | ⟨k, e, hk⟩
      · exact .inl b
      · exact .inr ⟨k, e, Nat.le_trans K.size hk⟩
    have HD := Lib.hid hd
    have HC := Lib.hid hc
    have HS0 := Lib.hid (HX.kept K (fun x => x)).c.2
    unfold winV at HC
    clear HW HX HT hrp hrv hok hlast hx hl hb hwd hc hX hP hd K h0 hn
    go_enter Tryd.func37, Tryd.ntmps37
    go_wp2
    refine AnyBut.start (S := fun w' => w'.cell? ⟨r, 1, none⟩ = some (.int .u64 (last : Int)) ∧ w'.cell? ⟨r, 2, none⟩ = some (.int .i64 (f : Int)) ∧ w'.cell? ⟨r, 3, none⟩ = some (.int .i64 (s : Int))) (k := 15) (by kernel_rfl) ?_
    rw [← HWD.out]
    refine AnyBut.take (i := 0) (v := ?v1) rfl (by kernel_rfl) (by kernel_rfl) (by kernel_rfl) (by kernel_rfl) (fun _ _ _ h => h) (HS0.out) (Or.inl ⟨by kernel_rfl, ?hy1⟩) ?r1
    case hy1 =>
      intro w hSw
      try dsimp only at hSw
      go_simp
      try with_reducible rfl
    try simp only [Act.put, List.getElem_toArray, List.getElem_cons_zero, List.setIfInBounds_toArray, List.set_cons_zero, List.set_cons_succ]
    refine AnyBut.take (i := 1) (v := ?v2) rfl (by kernel_rfl) (by kernel_rfl) (by kernel_rfl) (by kernel_rfl) (fun _ _ _ h => h) (HS0.out) (Or.inl ⟨by kernel_rfl, ?hy2⟩) ?r2
    case hy2 =>
      intro w hSw
      try dsimp only at hSw
      go_simp
      try with_reducible rfl
    try simp only [Act.put, List.getElem_toArray, List.getElem_cons_succ, List.getElem_cons_zero, List.setIfInBounds_toArray, List.set_cons_zero, List.set_cons_succ]
    refine AnyBut.take (i := 2) (v := ?v3) rfl (by kernel_rfl) (by kernel_rfl) (by kernel_rfl) (by kernel_rfl) (fun _ _ _ h => h) (HS0.out) (Or.inl ⟨by kernel_rfl, ?hy3⟩) ?r3
    case hy3 =>
      intro w hSw
      try dsimp only at hSw
      go_simp
      try with_reducible rfl
    try simp only [Act.put, List.getElem_toArray, List.getElem_cons_succ, List.getElem_cons_zero, List.setIfInBounds_toArray, List.set_cons_zero, List.set_cons_succ]
    refine AnyBut.take (i := 3) (v := ?v4) rfl (by kernel_rfl) (by kernel_rfl) (by kernel_rfl) (by kernel_rfl) (fun _ _ _ h => h) (HS0.out) (Or.inl ⟨by kernel_rfl, ?hy4⟩) ?r4
    case hy4 =>
      intro w hSw
      try dsimp only at hSw
      go_simp
      try with_reducible rfl
    try simp only [Act.put, List.getElem_toArray, List.getElem_cons_succ, List.getElem_cons_zero, List.setIfInBounds_toArray, List.set_cons_zero, List.set_cons_succ]
    refine AnyBut.take (i := 4) (v := ?v5) rfl (by kernel_rfl) (by kernel_rfl) (by kernel_rfl) (by kernel_rfl) (fun _ _ _ h => h) (HS0.out) (Or.inl ⟨by kernel_rfl, ?hy5⟩) ?r5
    case hy5 =>
      intro w hSw
      try dsimp only at hSw
      go_simp
      try with_reducible rfl
    try simp only [Act.put, List.getElem_toArray, List.getElem_cons_succ, List.getElem_cons_zero, List.setIfInBounds_toArray, List.set_cons_zero, List.set_cons_succ]
    refine AnyBut.take (i := 5) (v := ?v6) rfl (by kernel_rfl) (by kernel_rfl) (by kernel_rfl) (by kernel_rfl) (fun _ _ _ h => h) (HS0.out) (Or.inl ⟨by kernel_rfl, ?hy6⟩) ?r6
    case hy6 =>
      intro w hSw
      try dsimp only at hSw
      go_simp
      try with_reducible rfl
    try simp only [Act.put, List.getElem_toArray, List.getElem_cons_succ, List.getElem_cons_zero, List.setIfInBounds_toArray, List.set_cons_zero, List.set_cons_succ]
    refine AnyBut.take (i := 6) (v := ?v7) rfl (by kernel_rfl) (by kernel_rfl) (by kernel_rfl) (by kernel_rfl) (fun _ _ _ h => h) (HS0.out) (Or.inl ⟨by kernel_rfl, ?hy7⟩) ?r7
    case hy7 =>
      intro w hSw
      try dsimp only at hSw
      go_simp
      try with_reducible rfl
    try simp only [Act.put, List.getElem_toArray, List.getElem_cons_succ, List.getElem_cons_zero, List.setIfInBounds_toArray, List.set_cons_zero, List.set_cons_succ]
    refine AnyBut.take (i := 7) (v := ?v8) rfl (by kernel_rfl) (by kernel_rfl) (by kernel_rfl) (by kernel_rfl) (fun _ _ _ h => h) (HS0.out) (Or.inl ⟨by kernel_rfl, ?hy8⟩) ?r8
    case hy8 =>
      intro w hSw
      try dsimp only at hSw
      go_simp
      try with_reducible rfl
    try simp only [Act.put, List.getElem_toArray, List.getElem_cons_succ, List.getElem_cons_zero, List.setIfInBounds_toArray, List.set_cons_zero, List.set_cons_succ]
    refine AnyBut.take (i := 8) (v := ?v9) rfl (by kernel_rfl) (by kernel_rfl) (by kernel_rfl) (by kernel_rfl) (fun _ _ _ h => h) (HS0.out) (Or.inl ⟨by kernel_rfl, ?hy9⟩) ?r9
    case hy9 =>
      intro w hSw
      try dsimp only at hSw
      go_simp
      try with_reducible rfl
    try simp only [Act.put, List.getElem_toArray, List.getElem_cons_succ, List.getElem_cons_zero, List.setIfInBounds_toArray, List.set_cons_zero, List.set_cons_succ]
    refine AnyBut.take (i := 9) (v := ?v10) rfl (by kernel_rfl) (by kernel_rfl) (by kernel_rfl) (by kernel_rfl) (fun _ _ _ h => h) (HS0.out) (Or.inl ⟨by kernel_rfl, ?hy10⟩) ?r10
    case hy10 =>
      intro w hSw
      try dsimp only at hSw
      go_simp
      try with_reducible rfl
    try simp only [Act.put, List.getElem_toArray, List.getElem_cons_succ, List.getElem_cons_zero, List.setIfInBounds_toArray, List.set_cons_zero, List.set_cons_succ]
    refine AnyBut.take (i := 10) (v := ?v11) rfl (by kernel_rfl) (by kernel_rfl) (by kernel_rfl) (by kernel_rfl) (fun _ _ _ h => h) (HS0.out) (Or.inl ⟨by kernel_rfl, ?hy11⟩) ?r11
    case hy11 =>
      intro w hSw
      try dsimp only at hSw
      go_simp
      try with_reducible rfl
    try simp only [Act.put, List.getElem_toArray, List.getElem_cons_succ, List.getElem_cons_zero, List.setIfInBounds_toArray, List.set_cons_zero, List.set_cons_succ]
    refine AnyBut.take (i := 11) (v := ?v12) rfl (by kernel_rfl) (by kernel_rfl) (by kernel_rfl) (by kernel_rfl) (fun _ _ _ h => h) (HS0.out) (Or.inl ⟨by kernel_rfl, ?hy12⟩) ?r12
    case hy12 =>
      intro w hSw
      try dsimp only at hSw
      go_simp
      try with_reducible rfl
    try simp only [Act.put, List.getElem_toArray, List.getElem_cons_succ, List.getElem_cons_zero, List.setIfInBounds_toArray, List.set_cons_zero, List.set_cons_succ]
    refine AnyBut.one (i := 12) (by kernel_rfl) rfl (fun K hK => ?_)
    go_simp
    go_wp2_with fail
    refine HC.out.mono ?_
    rintro e w1 ⟨rfl, hto⟩
    have HTO := Lib.hid (HD.out _ _ hto)
    have HX1 := Lib.hid (HM.out _ _ HTO.out)
    have HS1 := Lib.hid HX1.out.c.2
    clear hto
    go_wp2
    refine hK.out _ _ (HS1.out) ?_
    clear hK K
    try simp only [Act.put, List.getElem_toArray, List.getElem_cons_succ, List.getElem_cons_zero, List.setIfInBounds_toArray, List.set_cons_zero, List.set_cons_succ]
    refine AnyBut.one (i := 13) (by kernel_rfl) rfl (fun K hK => ?_)
    go_simp
    try go_wp2
    refine hK.out _ _ (HS1.out) ?_
    clear hK K
    try simp only [Act.put, List.getElem_toArray, List.getElem_cons_succ, List.getElem_cons_zero, List.setIfInBounds_toArray, List.set_cons_zero, List.set_cons_succ]
    refine AnyBut.take (i := 14) (v := ?v13) rfl (by kernel_rfl) (by kernel_rfl) (by kernel_rfl) (by kernel_rfl) (fun _ _ _ h => h) (HS1.out) (Or.inl ⟨by kernel_rfl, ?hy13⟩) ?r13
    case hy13 =>
      intro w hSw
      try dsimp only at hSw
      go_simp
      try with_reducible rfl
    try simp only [Act.put, List.getElem_toArray, List.getElem_cons_succ, List.getElem_cons_zero, List.setIfInBounds_toArray, List.set_cons_zero, List.set_cons_succ]
    refine AnyBut.last (by kernel_rfl) rfl (by kernel_rfl) (fun K hK => ?_)
    obtain ⟨x0, x1, x2, x3⟩ := HX1.out.c
    have y0 := HX1.out.f 0
    have y1 := HX1.out.f 1
    have y2 := HX1.out.f 2
    have y3 := HX1.out.f 3
    go_simp
    go_wp2
    refine hK.out _ _ ?_
    clear hK K
    try simp only [Act.put, List.getElem_toArray, List.getElem_cons_succ, List.getElem_cons_zero, List.setIfInBounds_toArray, List.set_cons_zero, List.set_cons_succ]
    obtain ⟨w2, hw2⟩ : ∃ w', w' = (w1.setCell ⟨r, 2, none⟩ (.int .i64 (f' : Int))).setCell ⟨r, 3, none⟩ (.int .i64 (s' : Int)) := ⟨_, rfl⟩
    have hx2 := HX1.out.set23 f' s'
    rw [← hw2] at hx2 ⊢
    have HX2 := Lib.hid hx2
    obtain ⟨d0, d1, d2, d3⟩ := hx2.1.c
    have e0 := hx2.1.f 0
    have e1 := hx2.1.f 1
    clear hw2 hx2 x0 x1 x2 x3 y0 y1 y2 y3 c0 c1 c2 c3
    go_wp2
    go_end0
    have h3 := HX2.out.1.set10 n' x
    have h4 := HX2.out.2.trans h3.2
    exact HF.out _ _ HTO.out ⟨h3.1, h4⟩

theorem xnewRow_any (w : World) :
    Calls Tryd.prog 35 #[] w fun e w' => e = .returned (.pointer (some ⟨w.heap.size, 0, none⟩)) ∧ XRow w' w.heap.size 0 0 0 0 ∧ Kept (fun _ => False) w w' := by
  have H := Lib.hid (show XRow (w.alloc (.cells #[.int .i64 0, .int .u64 0, .int .i64 0, .int .i64 0] 93)) w.heap.size 0 0 0 0 from heap_alloc_new w _)
  have K := Lib.hid ((Kept.refl (fun _ => False) w).alloc (.cells #[.int .i64 0, .int .u64 0, .int .i64 0, .int .i64 0] 93))
  go_enter Tryd.func35, Tryd.ntmps35
  go_wp2
  go_ret
  exact ⟨rfl, H.out, K.out⟩
theorem xrowLen_any (r n last f s : Nat) (w : World) (HR : XRow w r n last f s) :
    Calls Tryd.prog 39 #[.pointer (some ⟨r, 0, none⟩)] w fun e w' => e = .returned (.int .i64 (n : Int)) ∧ w = w' := by
  obtain ⟨hc, _, _, _⟩ := HR.c
  clear HR
  go_enter Tryd.func39, Tryd.ntmps39
  go_wp2
  go_ret
  exact ⟨rfl, rfl⟩
set_option maxHeartbeats 400000 in
theorem xclone_any (r n last f s : Nat) (w : World) (HR : XRow w r n last f s) :
    Calls Tryd.prog 36 #[.pointer (some ⟨r, 0, none⟩)] w fun e w' => e = .returned (.pointer (some ⟨w.heap.size, 0, none⟩)) ∧ XRow w' w.heap.size n last f s ∧ Kept (fun _ => False) w w' := by
  obtain ⟨c0, c1, c2, c3⟩ := HR.c
  have H := Lib.hid (show XRow (w.alloc (.cells #[.int .i64 (n : Int), .int .u64 (last : Int), .int .i64 (f : Int), .int .i64 (s : Int)] 93)) w.heap.size n last f s from heap_alloc_new w _)
  have K := Lib.hid ((Kept.refl (fun _ => False) w).alloc (.cells #[.int .i64 (n : Int), .int .u64 (last : Int), .int .i64 (f : Int), .int .i64 (s : Int)] 93))
  clear HR
  go_enter Tryd.func36, Tryd.ntmps36
  go_wp2
  go_ret
  exact ⟨rfl, H.out, K.out⟩

/-- A writer and a row that were made behind the world W. -/
structure WX (W w : World) (p r : Nat) (v : Value) (bs : List Bool) (n last f s : Nat) : Prop where
  bw : BwAt w W.heap.size p v bs
  row : XRow w r n last f s
  base : W.heap.size ≤ r
  kept : Kept (fun _ => False) W w
theorem WX.on {W w w' : World} {p r : Nat} {v : Value} {bs : List Bool} {n last f s : Nat} (h : WX W w p r v bs n last f s) (hk : Kept (fun _ => False) w w') : WX W w' p r v bs n last f s :=
  ⟨h.bw.keptF hk, h.row.kept hk (fun x => x), h.base, h.kept.trans hk⟩
theorem WX.rput {W w w' : World} {p r : Nat} {v : Value} {bs : List Bool} {n last f s x : Nat} {e : Ending} (h : WX W w p r v bs n last f s) (ht : XPut w W.heap.size p r v bs n last f s x e w') : e = .returned (.tuple #[]) ∧ ∃ v', WX W w' p r v' (bs ++ (nextP n last f s x).1) (n + 1) x (nextP n last f s x).2.1 (nextP n last f s x).2.2 := by
  obtain ⟨he, hr, v', h1, a1, k1⟩ := ht
  refine ⟨he, v', h1, hr, h.base, h.kept.newer k1 ?_⟩
  rintro i (rfl | e | rfl)
  · exact h.bw.base
  · exact (ownsRow_lt h.bw.owns e).2
  · exact h.base
theorem xrowPutW (W w : World) (p r : Nat) (v : Value) (bs : List Bool) (n last f s x : Nat) (h : WX W w p r v bs n last f s) (HT : BruTab W) (hok : okW f s) (hn : n ≤ 1000000) (hlast : last < 18446744073709551616) (hx : x < 18446744073709551616) (hl : bs.length ≤ 900000000) :
    Calls Tryd.prog 37 #[.pointer (some ⟨r, 0, none⟩), .pointer (some ⟨p, 0, none⟩), .int .u64 x] w fun e w' => e = .returned (.tuple #[]) ∧ ∃ v', WX W w' p r v' (bs ++ (nextP n last f s x).1) (n + 1) x (nextP n last f s x).2.1 (nextP n last f s x).2.2 :=
  (xrowPut_any W.heap.size p r v bs n last f s x w h.bw h.row HT.lt h.kept.size (HT.kept h.kept) hok hn hlast hx hl).mono fun _ _ k => h.rput k

def xvals (l : List Nat) : List Value := l.map fun (n : Nat) => Value.int .u64 (n : Int)
@[simp] theorem xvals_length (l : List Nat) : (xvals l).length = l.length := by simp [xvals]
theorem xvals_get {l : List Nat} {j : Nat} (h : j < l.length) : (xvals l)[j]? = some (.int .u64 ((l.getD j 0 : Nat) : Int)) := by
  simp [xvals, List.getD_eq_getElem?_getD, List.getElem?_eq_getElem h]

set_option maxHeartbeats 4000000 in
set_option maxRecDepth 100000 in
theorem xcost_any (v : Value) (l : List Nat) (W : World) (hv : SlAt W v (xvals l)) (hl : l.length ≤ 1000000) (hb : ∀ x ∈ l, x < 18446744073709551616) (HT : BruTab W) :
    Calls Tryd.prog 40 #[v] W fun e w' => e = .returned (.int .i64 ((rowX l l.length).length : Int)) ∧ Kept (fun _ => False) W w' := by
  obtain ⟨ao, ca, rfl, hvr⟩ := hv.val
  clear hvr
  rw [xvals_length]
  have hv0 := Lib.hid hv
  rw [xvals_length] at hv0
  obtain ⟨N, hN⟩ : ∃ N, N = (rowX l l.length).length := ⟨_, rfl⟩
  rw [← hN]
  have HN := Lib.hid hN
  have HTT := Lib.hid HT
  have HBN := Lib.hid bnew_any
  have HRN := Lib.hid xnewRow_any
  have HBB := Lib.hid (getN_lt hb)
  have HLB := Lib.hid (lastN_lt hb)
  have HOK := Lib.hid (winX_ok hb)
  have HRL := Lib.hid (rowX_length hb)
  clear hv HT hb hN
  go_enter Tryd.func40, Tryd.ntmps40
  go_wp2_with fail
  refine (HBN.out W).mono ?_
  rintro e w1 ⟨rfl, hw1⟩
  have H0 := bnew_at W.heap.size W (Nat.le_refl _)
  rw [← hw1] at H0
  have k1 : Kept (fun _ => False) W w1 := by rw [hw1]; exact (Kept.refl _ _).alloc _
  clear hw1
  obtain ⟨p, hp⟩ : ∃ p, p = W.heap.size := ⟨_, rfl⟩
  have H0' : BwAt w1 W.heap.size p (.slice none 0 0) [] := by rw [hp]; exact H0
  rw [← hp]
  clear H0 hp
  go_wp2_with fail
  refine (HRN.out w1).mono ?_
  rintro e w2 ⟨rfl, hr, k2⟩
  have HH := Lib.hid (WX.mk (H0'.keptF k2) hr k1.size (k1.trans k2))
  obtain ⟨r, hr1⟩ : ∃ r, r = w1.heap.size := ⟨_, rfl⟩
  rw [← hr1] at HH ⊢
  clear hr hr1 k1 k2 H0'
  go_wp2
  go_loopg [6, 11] l.length (fun g s6 s11 wr => ∃ i : Nat, i ≤ l.length ∧ g = l.length - i ∧ s11 = .int .i64 i ∧ ∃ v, WX W wr p r v (rowX l i) i (lastN l i) (winX l i).1 (winX l i).2)
  case atStart => exact ⟨0, Nat.zero_le _, rfl, rfl, _, HH.out⟩
  case round =>
    obtain ⟨i, hil, rfl, rfl, v, hwx⟩ := hrel
    have HI := Lib.hid hwx
    clear hwx HH
    by_cases hd : i < l.length
    · have hdi : (i : Int) < (l.length : Int) := by omega
      have i0 : (0 : Int) ≤ (i : Int) := by omega
      have HD := Lib.hid hd
      obtain ⟨g, off, rfl, c0⟩ := (hv0.out.kept HI.out.kept (fun _ _ x => x)).elem (xvals_get hd)
      have hx := HBB.out i
      have hlb := HRL.out i
      have HNX : Hid (rowX l (i + 1) = rowX l i ++ (nextP i (lastN l i) (winX l i).1 (winX l i).2 (l.getD i 0)).1) := Lib.hid rfl
      have HNW : Hid (winX l (i + 1) = (nextP i (lastN l i) (winX l i).1 (winX l i).2 (l.getD i 0)).2) := Lib.hid rfl
      have HLA := Lib.hid (lastN_succ l i)
      obtain ⟨x, hxe⟩ : ∃ x, x = l.getD i 0 := ⟨_, rfl⟩
      rw [← hxe] at c0 hx HNX HNW HLA
      have HP := Lib.hid (xrowPutW W wr p r v (rowX l i) i _ _ _ x HI.out HTT.out (HOK.out i) (by omega) (HLB.out i) hx (by omega))
      clear hd hxe hlb hx
      go_wp2_with (go_at_call 37; refine HP.out.mono ?_; rintro e w7 ⟨rfl, v7, h7⟩; have H7 := Lib.hid h7; clear h7)
      go_roundg (l.length - (i + 1))
      case measure => have := HD.out; omega
      case rel => exact ⟨i + 1, HD.out, rfl, by go_num, v7, by rw [HNX.out, HNW.out, HLA.out]; exact H7.out⟩
    · obtain rfl : i = l.length := by omega
      have HL := Lib.hid (bwlen_any _ _ _ _ _ HI.out.bw)
      rw [← HN.out] at HL
      clear hd
      go_wp2_with (go_at_call 16; refine HL.out.mono ?_; rintro e w' ⟨rfl, rfl⟩)
      go_ret
      exact ⟨rfl, HI.out.kept⟩
end Go.Proofs.YtaagjedkojlbpaaDoor
