/- Texts put together: Z23. -/
import Derived.Test.YtjpnfadmblmjbaaDoorZz10
import Derived.Test.YtjpnfadmblmjbaaDoorZz12
/- package limnographref10: Put (written by tools/gen_XZ23.py). -/
namespace Go.Proofs.YtjpnfadmblmjbaaDoor
open Go.RowKit
attribute [local go_sem ↓] Go.wp_at_zero Go.wp_at_succ

theorem step_mineI2 {ops : Array Oper} {o : Oper} {a : Act} {K : Act → World → Prop} {Q : Exit → Act → World → Prop} {E : Prop} {w : World} (hgd : o.guard = none) (s x : Operand)
    (ho : o.op = .call { callee := .builtin .append, args := #[s, x], argTypes := #[26, 26] })
    (W : World) (v : Value) (xs : List Value) (hv : a.eval s = v) (hm : Mine W w 3 v xs)
    (y : Value) (news : List Value) (hy : a.eval x = y) (hs : Src Tryd.prog 1 26 y news.length news w)
    (hl : xs.length + news.length ≤ 1000000000000)
    (h : ∀ v' w', Mine W w' 3 v' (xs ++ news) → Kept (fun k => v.ownBlock = some k) w w' → (v'.ownBlock = v.ownBlock ∨ v'.ownBlock = some w.heap.size) → K (a.put o.dst v') w') :
    if Region.wanted o (yielded ops a.tmps) = true then Oper.wp Tryd.prog o a w K Q else E := by
  obtain ⟨iI, hiI, hzI0, hzI1, hzI2⟩ := info_parts Tryd.infoInt
  exact step_mine hgd s x _ _ ho 3 iI (.int .i64 0) 8 Tryd.underlying26 hiI hzI0 hzI1 hzI2 rfl (by omega) W v xs hv hm y news hy hs hl h
/-- Counts that were made stay while a row of bits grows. -/
theorem Mine.besideInt {W w w' : World} {u v : Value} {xs ys : List Value} (m : Mine W w 28 u xs) (b : Mine W w 3 v ys) (k : Kept (fun k => v.ownBlock = some k) w w') : Mine W w' 28 u xs := by
  refine m.keptS k ?_ (fun j e => (ownsRow_lt b.own e).2)
  intro j e e2
  obtain ⟨cur, hc⟩ := ownsRow_block b.own e2
  exact own_box m.own hc (by decide) e
/-- The last histogram of a row. -/
def lastH (L : List HP) : HistV := (L.getLast?.map HP.h).getD zeroH
theorem lastH_at {L : List HP} {p : HP} (h : L[L.length - 1]? = some p) : lastH L = p.h := by
  unfold lastH
  rw [List.getLast?_eq_getElem?, h]
  rfl
theorem ints_true : ([.int .i64 1] : List Value) = ints [true] := rfl
theorem ints_false : ([.int .i64 0] : List Value) = ints [false] := rfl

set_option maxHeartbeats 8000000 in
set_option maxRecDepth 100000 in
theorem refPut10_any (rao : Option Addr) (rc : Nat) (L : List HP) (h : HistV) (pv nv : Value) (w : World) (hL : HsAt w rao L) (hin : ∀ p ∈ L, HistAt w p.h p.pv p.nv ∧ p.h.pl.length ≤ 1000 ∧ p.h.nl.length ≤ 1000) (hn : L.length ≤ 1000) (ha : HistAt w h pv nv) (hok : h.ok) (he : h.err = 0) :
    Calls Tryd.prog 41 #[.slice rao L.length rc, histV h pv nv] w (BitsTo w (nextH L.length (lastH L) h)) := by
  obtain ⟨⟨ao, c, rfl⟩, bo, d, rfl⟩ := ha.sl
  have hsc := (err_light he).1
  have hp := (sideE_zero (err_light he).2.1).1
  have hnl := (sideE_zero (err_light he).2.2.1).1
  have HAL := Lib.hid fun w' (k : HistAt w' h (.slice ao h.pl.length c) (.slice bo h.nl.length d)) => refAll_any h _ _ w' k (by omega) (by omega)
  have HSP := Lib.hid fun w' (k : HistAt w' h (.slice ao h.pl.length c) (.slice bo h.nl.length d)) => refShape_any h.po h.pl _ w' k.p hok.po (by omega)
  have HSN := Lib.hid fun w' (k : HistAt w' h (.slice ao h.pl.length c) (.slice bo h.nl.length d)) => refShape_any h.no h.nl _ w' k.n hok.no (by omega)
  have HNU := Lib.hid fun w' => refNum_any (h.sc + 10).toNat 5 (by omega) (by omega) w'
  have HAA := Lib.hid ha
  have HSB := Lib.hid (show shapeB h = bitsN (h.sc + 10).toNat 5 ++ sideB h.po h.pl.length ++ sideB h.no h.nl.length from rfl)
  have HLB := Lib.hid (And.intro (sideB_len h.po h.pl.length) (sideB_len h.no h.nl.length))
  have HLT := Lib.hid (getD_cntL h hok)
  have hCN := cntL_length h
  obtain ⟨SC, hSC⟩ : ∃ k : Nat, k = (h.sc + 10).toNat := ⟨_, rfl⟩
  rw [← hSC] at HNU HSB
  have s2 : IntKind.i64.wrap (h.sc + 10) = (SC : Int) := by rw [IntWalk.i64_in _ ⟨by omega, by omega⟩]; omega
  obtain ⟨C, hC⟩ : ∃ C, C = cntL h := ⟨_, rfl⟩
  rw [← hC] at HAL HLT hCN
  obtain ⟨N, hN⟩ : ∃ N, N = C.length := ⟨_, rfl⟩
  rw [← hN] at HAL hCN
  have HCN := Lib.hid hN.symm
  have HNN := Lib.hid (show N ≤ 400 by omega)
  have HND : Hid (nextH L.length (lastH L) h = if 0 < L.length ∧ alikeH h (lastH L) then true :: difB C (cntL (lastH L)) else false :: (shapeB h ++ C.flatMap smallB)) := Lib.hid (by rw [hC]; rfl)
  obtain ⟨w0, hw0⟩ : ∃ w0, w0 = w.alloc (.cells #[.int .i64 h.sc, .int .u64 (h.ze : Int), .int .i64 h.po, .slice ao h.pl.length c, .int .i64 h.no, .slice bo h.nl.length d] 62) := ⟨_, rfl⟩
  have HB0 := Lib.hid (show HistBox w0 w.heap.size h (.slice ao h.pl.length c) (.slice bo h.nl.length d) by rw [hw0]; exact heap_alloc_new w _)
  have hk0 : Kept (fun _ => False) w w0 := by rw [hw0]; exact (Kept.refl _ _).alloc _
  have HK0 := Lib.hid hk0
  have HA0 := Lib.hid (ha.on hk0)
  have HW0 := Lib.hid hw0
  obtain ⟨q, hq⟩ : ∃ q, q = w.heap.size := ⟨_, rfl⟩
  rw [← hq] at HB0
  have HQ := Lib.hid hq
  obtain ⟨n, hln⟩ : ∃ n, n = L.length := ⟨_, rfl⟩
  rw [← hln] at HND ⊢
  by_cases hn0 : n = 0
  · have HE := Lib.hid (show nextH n (lastH L) h = false :: shapeB h ++ C.flatMap smallB by rw [HND.out, if_neg (fun e => by omega)]; rfl)
    have z0 : ¬ (0 : Int) < (n : Int) := by omega
    have z1 : decide (0 < n) = false := decide_eq_false (by omega)
    have z2 : decide ((0 : Int) < (n : Int)) = false := decide_eq_false (by omega)
    obtain ⟨LH, hLH⟩ : ∃ x, x = lastH L := ⟨_, rfl⟩
    rw [← hLH] at HND HE ⊢
    clear hL hin ha hok he hsc hp hnl hSC hC hN hk0 hw0 hq hln hn hCN hn0 hLH
    obtain ⟨sc, ze, po, pl, no, nl⟩ := h
    unfold histV at HAL ⊢
    dsimp only at HAL HSP HSN HAA HB0 HA0 HSB HLB s2 HND ⊢
    try dsimp only at HE
    go_enter Tryd.func41, Tryd.ntmps41
    go_upto_region 1 with fail
    rw [← HW0.out, ← HQ.out]
    go_upto_region 2 with fail
    have hkd := (Kept.refl (fun _ => False) w0).drew
    have HSSa : Hid ((fun w' => w'.cell? ⟨q, 0, none⟩ = some (.int .i64 sc) ∧ w'.cell? ⟨q, 1, none⟩ = some (.int .u64 (ze : Int)) ∧ w'.cell? ⟨q, 2, none⟩ = some (.int .i64 po) ∧ w'.cell? ⟨q, 3, none⟩ = some (.slice ao pl.length c) ∧ w'.cell? ⟨q, 4, none⟩ = some (.int .i64 no) ∧ w'.cell? ⟨q, 5, none⟩ = some (.slice bo nl.length d)) w0.drew) := by
      obtain ⟨x0, x1, x2, x3, x4, x5⟩ := HistBox.c (h := ⟨sc, ze, po, pl, no, nl⟩) (HistBox.same HB0.out hkd (fun x => x))
      exact Lib.hid ⟨x0, x1, x2, x3, x4, x5⟩
    have HKD := Lib.hid hkd
    clear hkd
    refine AnyBut.start (S := fun w' => w'.cell? ⟨q, 0, none⟩ = some (.int .i64 sc) ∧ w'.cell? ⟨q, 1, none⟩ = some (.int .u64 (ze : Int)) ∧ w'.cell? ⟨q, 2, none⟩ = some (.int .i64 po) ∧ w'.cell? ⟨q, 3, none⟩ = some (.slice ao pl.length c) ∧ w'.cell? ⟨q, 4, none⟩ = some (.int .i64 no) ∧ w'.cell? ⟨q, 5, none⟩ = some (.slice bo nl.length d)) (k := 11) (by kernel_rfl) ?_
    refine AnyBut.takeS (i := 0) (v := ?v1) rfl (by kernel_rfl) (Nat.le_of_eq (by kernel_rfl)) (by kernel_rfl) (by kernel_rfl) (fun _ _ _ h => h) (HSSa.out) (Or.inl ⟨by kernel_rfl, ?hy1⟩) ?r1
    case hy1 =>
      intro w hSw
      try dsimp only at hSw
      go_simp
      try with_reducible rfl
    try simp only [Act.put, List.getElem_toArray, List.getElem_cons_zero, List.setIfInBounds_toArray, List.set_cons_zero, List.set_cons_succ]
    refine AnyBut.takeS (i := 1) (v := ?v2) rfl (by kernel_rfl) (Nat.le_of_eq (by kernel_rfl)) (by kernel_rfl) (by kernel_rfl) (fun _ _ _ h => h) (HSSa.out) (Or.inl ⟨by kernel_rfl, ?hy2⟩) ?r2
    case hy2 =>
      intro w hSw
      try dsimp only at hSw
      go_simp
      try with_reducible rfl
    try simp only [Act.put, List.getElem_toArray, List.getElem_cons_succ, List.getElem_cons_zero, List.setIfInBounds_toArray, List.set_cons_zero, List.set_cons_succ]
    refine AnyBut.takeS (i := 2) (v := ?v3) rfl (by kernel_rfl) (Nat.le_of_eq (by kernel_rfl)) (by kernel_rfl) (by kernel_rfl) (fun _ _ _ h => h) (HSSa.out) (Or.inl ⟨by kernel_rfl, ?hy3⟩) ?r3
    case hy3 =>
      intro w hSw
      try dsimp only at hSw
      go_simp
      try with_reducible rfl
    try simp only [Act.put, List.getElem_toArray, List.getElem_cons_succ, List.getElem_cons_zero, List.setIfInBounds_toArray, List.set_cons_zero, List.set_cons_succ]
    refine AnyBut.takeS (i := 3) (v := undef) rfl (by kernel_rfl) (Nat.le_of_eq (by kernel_rfl)) (by kernel_rfl) (by kernel_rfl) (fun _ _ _ h => h) (HSSa.out) (Or.inr ⟨by kernel_rfl, rfl⟩) ?r4
    try simp only [Act.put, List.getElem_toArray, List.getElem_cons_succ, List.getElem_cons_zero, List.setIfInBounds_toArray, List.set_cons_zero, List.set_cons_succ]
    refine AnyBut.takeS (i := 4) (v := undef) rfl (by kernel_rfl) (Nat.le_of_eq (by kernel_rfl)) (by kernel_rfl) (by kernel_rfl) (fun _ _ _ h => h) (HSSa.out) (Or.inr ⟨by kernel_rfl, rfl⟩) ?r5
    try simp only [Act.put, List.getElem_toArray, List.getElem_cons_succ, List.getElem_cons_zero, List.setIfInBounds_toArray, List.set_cons_zero, List.set_cons_succ]
    refine AnyBut.takeS (i := 5) (v := undef) rfl (by kernel_rfl) (Nat.le_of_eq (by kernel_rfl)) (by kernel_rfl) (by kernel_rfl) (fun _ _ _ h => h) (HSSa.out) (Or.inr ⟨by kernel_rfl, rfl⟩) ?r6
    try simp only [Act.put, List.getElem_toArray, List.getElem_cons_succ, List.getElem_cons_zero, List.setIfInBounds_toArray, List.set_cons_zero, List.set_cons_succ]
    refine AnyBut.takeS (i := 6) (v := undef) rfl (by kernel_rfl) (Nat.le_of_eq (by kernel_rfl)) (by kernel_rfl) (by kernel_rfl) (fun _ _ _ h => h) (HSSa.out) (Or.inr ⟨by kernel_rfl, rfl⟩) ?r7
    try simp only [Act.put, List.getElem_toArray, List.getElem_cons_succ, List.getElem_cons_zero, List.setIfInBounds_toArray, List.set_cons_zero, List.set_cons_succ]
    refine AnyBut.takeS (i := 7) (v := undef) rfl (by kernel_rfl) (Nat.le_of_eq (by kernel_rfl)) (by kernel_rfl) (by kernel_rfl) (fun _ _ _ h => h) (HSSa.out) (Or.inr ⟨by kernel_rfl, rfl⟩) ?r8
    try simp only [Act.put, List.getElem_toArray, List.getElem_cons_succ, List.getElem_cons_zero, List.setIfInBounds_toArray, List.set_cons_zero, List.set_cons_succ]
    refine AnyBut.takeS (i := 8) (v := undef) rfl (by kernel_rfl) (Nat.le_of_eq (by kernel_rfl)) (by kernel_rfl) (by kernel_rfl) (fun _ _ _ h => h) (HSSa.out) (Or.inr ⟨by kernel_rfl, rfl⟩) ?r9
    try simp only [Act.put, List.getElem_toArray, List.getElem_cons_succ, List.getElem_cons_zero, List.setIfInBounds_toArray, List.set_cons_zero, List.set_cons_succ]
    refine AnyBut.takeS (i := 9) (v := undef) rfl (by kernel_rfl) (Nat.le_of_eq (by kernel_rfl)) (by kernel_rfl) (by kernel_rfl) (fun _ _ _ h => h) (HSSa.out) (Or.inr ⟨by kernel_rfl, rfl⟩) ?r10
    try simp only [Act.put, List.getElem_toArray, List.getElem_cons_succ, List.getElem_cons_zero, List.setIfInBounds_toArray, List.set_cons_zero, List.set_cons_succ]
    refine AnyBut.takeS (i := 10) (v := ?v11) rfl (by kernel_rfl) (Nat.le_of_eq (by kernel_rfl)) (by kernel_rfl) (by kernel_rfl) (fun _ _ _ h => h) (HSSa.out) (Or.inl ⟨by kernel_rfl, ?hy11⟩) ?r11
    case hy11 =>
      intro w hSw
      try dsimp only at hSw
      go_simp
      try with_reducible rfl
    try simp only [Act.put, List.getElem_toArray, List.getElem_cons_succ, List.getElem_cons_zero, List.setIfInBounds_toArray, List.set_cons_zero, List.set_cons_succ]
    refine AnyBut.done (by kernel_rfl) ?_
    obtain ⟨wd, hwd⟩ : ∃ w', w' = w0.drew := ⟨_, rfl⟩
    rw [← hwd]
    have HBq := Lib.hid (show HistBox wd q ⟨sc, ze, po, pl, no, nl⟩ (.slice ao pl.length c) (.slice bo nl.length d) by rw [hwd]; exact HB0.out.same HKD.out (fun x => x))
    have HAq := Lib.hid (show HistAt wd ⟨sc, ze, po, pl, no, nl⟩ (.slice ao pl.length c) (.slice bo nl.length d) by rw [hwd]; exact HA0.out.on HKD.out)
    have HKq := Lib.hid (show Kept (fun _ => False) w wd by rw [hwd]; exact HK0.out.trans HKD.out)
    clear hwd
    have HM1 := Lib.hid (show Mine wd (wd.alloc (.cells #[.int .i64 0] 3)) 3 (.slice (some ⟨wd.heap.size, 0, none⟩) 1 1) (ints [false]) from ⟨own_freshZ wd _ 1 [.int .i64 0] 1 rfl (by simp [maxLen]), (Kept.refl _ _).alloc _⟩)
    obtain ⟨x0, x1, x2, x3, x4, x5⟩ := HistBox.c (h := ⟨sc, ze, po, pl, no, nl⟩) HBq.out
    dsimp only at x0 x1 x2 x3 x4 x5
    have xa := fun o => ((Kept.refl (fun _ => False) wd).alloc o).cell x0 (fun x => x)
    obtain ⟨wa, hwa⟩ : ∃ w', w' = wd.alloc (.cells #[.int .i64 0] 3) := ⟨_, rfl⟩
    rw [← hwa] at HM1
    have HWA := Lib.hid hwa
    clear hwa
    go_wp2_with fail
    rw [← HWA.out]
    refine (HNU.out _).mono ?_
    rintro e w2 ⟨a2', c2', rfl, m2⟩
    have HM2 := Lib.hid (HM1.out.on m2.kept)
    have HS2 := Lib.hid m2.srcB
    clear m2 x0 x1 x2 x3 x4 x5 xa
    go_upto_region 11 with (at_builtin; refine wpList_mineI rfl (.tmp 56) (.tmp 60) rfl wd _ _ rfl HM2.out _ (ints (bitsN SC 5)) rfl HS2.out (by simp) ?_; intro v3 w3 hm3; obtain ⟨a3, c3, e3⟩ := hm3.slice; obtain ⟨n3, hn3⟩ : ∃ n, v3 = Value.slice a3 n c3 := ⟨_, e3⟩; subst hn3; have HM3 := Lib.hid hm3; clear hm3 e3)
    obtain ⟨x0, x1, x2, x3, x4, x5⟩ := HistBox.c (h := ⟨sc, ze, po, pl, no, nl⟩) (HistBox.same HBq.out HM3.out.kept (fun x => x))
    dsimp only at x0 x1 x2 x3 x4 x5
    go_wp2_with fail
    refine (HSP.out _ (HAq.out.on HM3.out.kept)).mono ?_
    rintro e wb3 ⟨b3, d3, rfl, m3⟩
    have HN3 := Lib.hid (HM3.out.on m3.kept)
    have HT3 := Lib.hid m3.srcB
    clear m3 x0 x1 x2 x3 x4 x5
    go_upto_region 12 with (at_builtin; refine wpList_mineI rfl (.tmp 62) (.tmp 65) rfl wd _ _ rfl HN3.out _ (ints (sideB po pl.length)) rfl HT3.out (by have := HLB.out; simp; omega) ?_; intro v4 w4 hm4; obtain ⟨a4, c4, e4⟩ := hm4.slice; obtain ⟨n4, hn4⟩ : ∃ n, v4 = Value.slice a4 n c4 := ⟨_, e4⟩; subst hn4; have HM4 := Lib.hid hm4; clear hm4 e4)
    obtain ⟨x0, x1, x2, x3, x4, x5⟩ := HistBox.c (h := ⟨sc, ze, po, pl, no, nl⟩) (HistBox.same HBq.out HM4.out.kept (fun x => x))
    dsimp only at x0 x1 x2 x3 x4 x5
    go_wp2_with fail
    refine (HSN.out _ (HAq.out.on HM4.out.kept)).mono ?_
    rintro e wb4 ⟨b4, d4, rfl, m4⟩
    have HN4 := Lib.hid (HM4.out.on m4.kept)
    have HT4 := Lib.hid m4.srcB
    clear m4 x0 x1 x2 x3 x4 x5
    go_upto_region 13 with (at_builtin; refine wpList_mineI rfl (.tmp 67) (.tmp 70) rfl wd _ _ rfl HN4.out _ (ints (sideB no nl.length)) rfl HT4.out (by have := HLB.out; simp; omega) ?_; intro v5 w5 hm5; obtain ⟨a5, c5, e5⟩ := hm5.slice; obtain ⟨n5, hn5⟩ : ∃ n, v5 = Value.slice a5 n c5 := ⟨_, e5⟩; subst hn5; have HM5 := Lib.hid hm5; clear hm5 e5)
    obtain ⟨x0, x1, x2, x3, x4, x5⟩ := HistBox.c (h := ⟨sc, ze, po, pl, no, nl⟩) (HistBox.same HBq.out HM5.out.kept (fun x => x))
    dsimp only at x0 x1 x2 x3 x4 x5
    go_wp2_with fail
    refine (HAL.out _ (HAq.out.on HM5.out.kept)).mono ?_
    rintro e w6 ⟨a6, c6, rfl, m6⟩
    have HM6 := Lib.hid (HM5.out.on m6.kept)
    have HC6 := Lib.hid (m6.down HM5.out.kept)
    clear m6 x0 x1 x2 x3 x4 x5
    have HX6 : Hid (Mine wd w6 3 (.slice a5 n5 c5) (ints (false :: shapeB ⟨sc, ze, po, pl, no, nl⟩))) := Lib.hid (by have h := HM6.out; rw [HSB.out]; simpa [ints_append, ints] using h)
    go_wp2
    go_loopg [10, 12] N (fun g s10 s12 wr => ∃ i : Nat, i ≤ N ∧ g = N - i ∧ s12 = .int .i64 i ∧ Mine wd wr 3 s10 (ints (false :: shapeB ⟨sc, ze, po, pl, no, nl⟩ ++ (C.take i).flatMap smallB)) ∧ Mine wd wr 28 (.slice a6 N c6) (uvals C))
    case atStart => exact ⟨0, Nat.zero_le _, rfl, rfl, by simpa using HX6.out, HC6.out⟩
    case round =>
      obtain ⟨i, hiN, rfl, rfl, hx, hc⟩ := hrel
      have HX := Lib.hid hx
      have HCr := Lib.hid hc
      obtain ⟨ax, cx, ex⟩ := hx.slice
      obtain ⟨nx, hnx⟩ : ∃ n, n = (ints (false :: shapeB ⟨sc, ze, po, pl, no, nl⟩ ++ (C.take i).flatMap smallB)).length := ⟨_, rfl⟩
      rw [← hnx] at ex
      subst ex
      have HNX := Lib.hid hnx
      clear hx hc hnx
      by_cases hd : i < N
      · have hdi : (i : Int) < (N : Int) := by omega
        have HD := Lib.hid hd
        have wi : IntKind.i64.wrap ((i : Int) + 1) = ((i + 1 : Nat) : Int) := by rw [IntWalk.i64_in _ ⟨by omega, by have := HNN.out; omega⟩]; omega
        obtain ⟨gq, off, ha3, hc3⟩ := HCr.out.at_.elem (uvals_get (l := C) (j := i) (by have := HCN.out; omega))
        cases ha3
        obtain ⟨x, hx⟩ : ∃ x, x = C.getD i 0 := ⟨_, rfl⟩
        rw [← hx] at hc3
        have HSM := Lib.hid (smallTo_any x (by rw [hx]; exact HLT.out i) wr)
        have HST := Lib.hid (smalls_take C i (by have := HCN.out; omega))
        rw [← hx] at HST
        have HLS := Lib.hid (show nx + (smallB x).length ≤ 1000000 by have h1 := HNX.out; have h2 := smallB_len x; have h3 := smalls_len (C.take i); have h4 := shapeB_len ⟨sc, ze, po, pl, no, nl⟩; have h5 := HNN.out; rw [ints_length, List.length_append, List.length_cons] at h1; rw [List.length_take] at h3; omega)
        clear hx hd
        go_wp2_with fail
        refine HSM.out.mono ?_
        rintro e w7 ⟨a7, c7, rfl, m7⟩
        have HX7 := Lib.hid (HX.out.on m7.kept)
        have HC7 := Lib.hid (HCr.out.on m7.kept)
        have HS7 := Lib.hid m7.srcB
        clear m7 hc3
        go_wp2_with (at_builtin; refine wpList_mineI2 rfl (.tmp 80) (.tmp 85) rfl wd _ _ rfl HX7.out _ (ints (smallB x)) rfl HS7.out (by rw [← HNX.out, ints_length]; have := HLS.out; omega) ?_; intro v8 w8 hm8 hk8 _; have HX8 := Lib.hid hm8; have HC8 := Lib.hid (HC7.out.besideInt HX7.out hk8); clear hm8 hk8)
        go_roundg (N - (i + 1))
        case measure => have := HD.out; omega
        case rel => exact ⟨i + 1, HD.out, rfl, rfl, by rw [HST.out, ← List.append_assoc, ints_append]; exact HX8.out, HC8.out⟩
      · obtain rfl : N = i := by omega
        go_wp2
        go_ret
        rw [HE.out]
        have hx := HX.out
        rw [← HCN.out, List.take_length] at hx
        exact bitsTo_mine HKq.out hx
  · obtain ⟨m, hm⟩ : ∃ m, m + 1 = n := ⟨n - 1, by omega⟩
    have hLm : L[m]? = some L[m] := List.getElem?_eq_getElem (by omega)
    obtain ⟨P, hP⟩ : ∃ p, p = L[m] := ⟨_, rfl⟩
    rw [← hP] at hLm
    have hlast : lastH L = P.h := lastH_at (by rw [← hln, ← hm]; exact hLm)
    obtain ⟨gb, ob, rfl, hrec⟩ := hL (by omega)
    have hPin := hin P (List.mem_of_getElem? hLm)
    have HEL := Lib.hid ((hrec m P hLm).keptS hk0 (fun x => x))
    have HPA := Lib.hid (show HistAt w0 P.h P.pv P.nv from hPin.1.on hk0)
    have HPL := Lib.hid hPin.2
    rw [hlast] at HND ⊢
    have wm : IntKind.i64.wrap ((n : Int) - 1) = (m : Int) := by rw [IntWalk.i64_in _ ⟨by omega, by omega⟩]; omega
    have hmn : (m : Int) < (n : Int) := by omega
    have hm0 : (0 : Int) ≤ (m : Int) := by omega
    have hmnN : m < n := by omega
    have z0 : (0 : Int) < (n : Int) := by omega
    have z1 : decide (0 < n) = true := decide_eq_true (by omega)
    have z2 : decide ((0 : Int) < (n : Int)) = true := decide_eq_true (by omega)
    have HLK := Lib.hid fun w' (k1 : HistAt w' h (.slice ao h.pl.length c) (.slice bo h.nl.length d)) (k2 : HistAt w' P.h P.pv P.nv) => refAlike_any P.h h _ _ _ _ w' k2 k1
    have HAG := Lib.hid fun w' (k : HistAt w' P.h P.pv P.nv) => refAll_any P.h P.pv P.nv w' k (by omega) (by omega)
    obtain ⟨D, hD⟩ : ∃ D, D = cntL P.h := ⟨_, rfl⟩
    rw [← hD] at HAG HND
    have hDL := cntL_length P.h
    rw [← hD] at hDL
    by_cases hal : alikeH h P.h
    · have HE := Lib.hid (show nextH n P.h h = true :: difB C D by rw [HND.out, if_pos ⟨by omega, hal⟩])
      rw [decide_eq_true (show alikeH P.h h from ⟨hal.1.symm, hal.2.1.symm, hal.2.2.1.symm, hal.2.2.2.1.symm, hal.2.2.2.2.symm⟩)] at HLK
      have HDL := Lib.hid (show (cntL P.h).length = N by rw [hal.cnt, ← hC]; exact hN.symm)
      have HDN := Lib.hid (show D.length = N by rw [hD]; exact HDL.out)
      rw [hD] at HAG
      have HDQ := Lib.hid hD.symm
      clear hL hin ha hok he hsc hp hnl hSC hC hN hk0 hw0 hq hln hn hCN hn0 hal hm hLm hP hrec hPin hlast hmn hD hDL
      obtain ⟨sc, ze, po, pl, no, nl⟩ := h
      unfold histV at HAL ⊢
      dsimp only at HAL HSP HSN HAA HB0 HA0 HSB HLB s2 HND ⊢
      try dsimp only at HE
      obtain ⟨⟨gsc, gze, gpo, gpl, gno, gnl⟩, a1, c1, a2, c2⟩ := P
      unfold histV HP.pv HP.nv at HLK HAG
      unfold HP.pv HP.nv at HPA
      dsimp only at HLK HAG HPA HEL HND ⊢
      try dsimp only at HE
      try dsimp only at HDL
      try dsimp only at HDQ
      rw [HDQ.out] at HAG
      rw [HDQ.out] at HDL
      go_enter Tryd.func41, Tryd.ntmps41
      go_upto_region 1 with fail
      rw [← HW0.out, ← HQ.out]
      go_upto_region 2 with fail
      have hkd := (Kept.refl (fun _ => False) w0).drew
      have HSSa : Hid ((fun w' => w'.cell? ⟨q, 0, none⟩ = some (.int .i64 sc) ∧ w'.cell? ⟨q, 1, none⟩ = some (.int .u64 (ze : Int)) ∧ w'.cell? ⟨q, 2, none⟩ = some (.int .i64 po) ∧ w'.cell? ⟨q, 3, none⟩ = some (.slice ao pl.length c) ∧ w'.cell? ⟨q, 4, none⟩ = some (.int .i64 no) ∧ w'.cell? ⟨q, 5, none⟩ = some (.slice bo nl.length d) ∧ w'.cell? ⟨gb, ob + m * 6, none⟩ = some (.int .i64 gsc) ∧ w'.cell? ⟨gb, ob + m * 6 + 1, none⟩ = some (.int .u64 (gze : Int)) ∧ w'.cell? ⟨gb, ob + m * 6 + 2, none⟩ = some (.int .i64 gpo) ∧ w'.cell? ⟨gb, ob + m * 6 + 3, none⟩ = some (.slice a1 gpl.length c1) ∧ w'.cell? ⟨gb, ob + m * 6 + 4, none⟩ = some (.int .i64 gno) ∧ w'.cell? ⟨gb, ob + m * 6 + 5, none⟩ = some (.slice a2 gnl.length c2)) w0.drew) := by
        obtain ⟨x0, x1, x2, x3, x4, x5⟩ := HistBox.c (h := ⟨sc, ze, po, pl, no, nl⟩) (HistBox.same HB0.out hkd (fun x => x))
        obtain ⟨z0, z1, z2, z3, z4, z5⟩ := HElt.keptS HEL.out hkd (fun x => x)
        exact Lib.hid ⟨x0, x1, x2, x3, x4, x5, z0, z1, z2, z3, z4, z5⟩
      have HKD := Lib.hid hkd
      clear hkd
      refine AnyBut.start (S := fun w' => w'.cell? ⟨q, 0, none⟩ = some (.int .i64 sc) ∧ w'.cell? ⟨q, 1, none⟩ = some (.int .u64 (ze : Int)) ∧ w'.cell? ⟨q, 2, none⟩ = some (.int .i64 po) ∧ w'.cell? ⟨q, 3, none⟩ = some (.slice ao pl.length c) ∧ w'.cell? ⟨q, 4, none⟩ = some (.int .i64 no) ∧ w'.cell? ⟨q, 5, none⟩ = some (.slice bo nl.length d) ∧ w'.cell? ⟨gb, ob + m * 6, none⟩ = some (.int .i64 gsc) ∧ w'.cell? ⟨gb, ob + m * 6 + 1, none⟩ = some (.int .u64 (gze : Int)) ∧ w'.cell? ⟨gb, ob + m * 6 + 2, none⟩ = some (.int .i64 gpo) ∧ w'.cell? ⟨gb, ob + m * 6 + 3, none⟩ = some (.slice a1 gpl.length c1) ∧ w'.cell? ⟨gb, ob + m * 6 + 4, none⟩ = some (.int .i64 gno) ∧ w'.cell? ⟨gb, ob + m * 6 + 5, none⟩ = some (.slice a2 gnl.length c2)) (k := 11) (by kernel_rfl) ?_
      refine AnyBut.takeS (i := 0) (v := ?v22) rfl (by kernel_rfl) (Nat.le_of_eq (by kernel_rfl)) (by kernel_rfl) (by kernel_rfl) (fun _ _ _ h => h) (HSSa.out) (Or.inl ⟨by kernel_rfl, ?hy22⟩) ?r22
      case hy22 =>
        intro w hSw
        try dsimp only at hSw
        go_simp
        try with_reducible rfl
      try simp only [Act.put, List.getElem_toArray, List.getElem_cons_zero, List.setIfInBounds_toArray, List.set_cons_zero, List.set_cons_succ]
      refine AnyBut.takeS (i := 1) (v := ?v23) rfl (by kernel_rfl) (Nat.le_of_eq (by kernel_rfl)) (by kernel_rfl) (by kernel_rfl) (fun _ _ _ h => h) (HSSa.out) (Or.inl ⟨by kernel_rfl, ?hy23⟩) ?r23
      case hy23 =>
        intro w hSw
        try dsimp only at hSw
        go_simp
        try with_reducible rfl
      try simp only [Act.put, List.getElem_toArray, List.getElem_cons_succ, List.getElem_cons_zero, List.setIfInBounds_toArray, List.set_cons_zero, List.set_cons_succ]
      refine AnyBut.takeS (i := 2) (v := ?v24) rfl (by kernel_rfl) (Nat.le_of_eq (by kernel_rfl)) (by kernel_rfl) (by kernel_rfl) (fun _ _ _ h => h) (HSSa.out) (Or.inl ⟨by kernel_rfl, ?hy24⟩) ?r24
      case hy24 =>
        intro w hSw
        try dsimp only at hSw
        go_simp
        try with_reducible rfl
      try simp only [Act.put, List.getElem_toArray, List.getElem_cons_succ, List.getElem_cons_zero, List.setIfInBounds_toArray, List.set_cons_zero, List.set_cons_succ]
      refine AnyBut.takeS (i := 3) (v := ?v25) rfl (by kernel_rfl) (Nat.le_of_eq (by kernel_rfl)) (by kernel_rfl) (by kernel_rfl) (fun _ _ _ h => h) (HSSa.out) (Or.inl ⟨by kernel_rfl, ?hy25⟩) ?r25
      case hy25 =>
        intro w hSw
        try dsimp only at hSw
        go_simp
        try with_reducible rfl
      try simp only [Act.put, List.getElem_toArray, List.getElem_cons_succ, List.getElem_cons_zero, List.setIfInBounds_toArray, List.set_cons_zero, List.set_cons_succ]
      refine AnyBut.takeS (i := 4) (v := ?v26) rfl (by kernel_rfl) (Nat.le_of_eq (by kernel_rfl)) (by kernel_rfl) (by kernel_rfl) (fun _ _ _ h => h) (HSSa.out) (Or.inl ⟨by kernel_rfl, ?hy26⟩) ?r26
      case hy26 =>
        intro w hSw
        try dsimp only at hSw
        go_simp
        try with_reducible rfl
      try simp only [Act.put, List.getElem_toArray, List.getElem_cons_succ, List.getElem_cons_zero, List.setIfInBounds_toArray, List.set_cons_zero, List.set_cons_succ]
      refine AnyBut.takeS (i := 5) (v := ?v27) rfl (by kernel_rfl) (Nat.le_of_eq (by kernel_rfl)) (by kernel_rfl) (by kernel_rfl) (fun _ _ _ h => h) (HSSa.out) (Or.inl ⟨by kernel_rfl, ?hy27⟩) ?r27
      case hy27 =>
        intro w hSw
        try dsimp only at hSw
        go_simp
        try with_reducible rfl
      try simp only [Act.put, List.getElem_toArray, List.getElem_cons_succ, List.getElem_cons_zero, List.setIfInBounds_toArray, List.set_cons_zero, List.set_cons_succ]
      refine AnyBut.takeS (i := 6) (v := ?v28) rfl (by kernel_rfl) (Nat.le_of_eq (by kernel_rfl)) (by kernel_rfl) (by kernel_rfl) (fun _ _ _ h => h) (HSSa.out) (Or.inl ⟨by kernel_rfl, ?hy28⟩) ?r28
      case hy28 =>
        intro w hSw
        try dsimp only at hSw
        go_simp
        try with_reducible rfl
      try simp only [Act.put, List.getElem_toArray, List.getElem_cons_succ, List.getElem_cons_zero, List.setIfInBounds_toArray, List.set_cons_zero, List.set_cons_succ]
      refine AnyBut.takeS (i := 7) (v := ?v29) rfl (by kernel_rfl) (Nat.le_of_eq (by kernel_rfl)) (by kernel_rfl) (by kernel_rfl) (fun _ _ _ h => h) (HSSa.out) (Or.inl ⟨by kernel_rfl, ?hy29⟩) ?r29
      case hy29 =>
        intro w hSw
        try dsimp only at hSw
        go_simp
        try with_reducible rfl
      try simp only [Act.put, List.getElem_toArray, List.getElem_cons_succ, List.getElem_cons_zero, List.setIfInBounds_toArray, List.set_cons_zero, List.set_cons_succ]
      refine AnyBut.takeS (i := 8) (v := ?v30) rfl (by kernel_rfl) (Nat.le_of_eq (by kernel_rfl)) (by kernel_rfl) (by kernel_rfl) (fun _ _ _ h => h) (HSSa.out) (Or.inl ⟨by kernel_rfl, ?hy30⟩) ?r30
      case hy30 =>
        intro w hSw
        try dsimp only at hSw
        go_simp
        try with_reducible rfl
      try simp only [Act.put, List.getElem_toArray, List.getElem_cons_succ, List.getElem_cons_zero, List.setIfInBounds_toArray, List.set_cons_zero, List.set_cons_succ]
      refine AnyBut.one (i := 9) (by kernel_rfl) rfl (fun K hK => ?_)
      go_simp
      go_wp2_with fail
      refine (HLK.out _ (HA0.out.on HKD.out) (HPA.out.on HKD.out)).mono ?_
      rintro e w1 ⟨rfl, k1⟩
      have HK1 := Lib.hid (HKD.out.trans k1)
      clear k1
      have HSSb : Hid ((fun w' => w'.cell? ⟨q, 0, none⟩ = some (.int .i64 sc) ∧ w'.cell? ⟨q, 1, none⟩ = some (.int .u64 (ze : Int)) ∧ w'.cell? ⟨q, 2, none⟩ = some (.int .i64 po) ∧ w'.cell? ⟨q, 3, none⟩ = some (.slice ao pl.length c) ∧ w'.cell? ⟨q, 4, none⟩ = some (.int .i64 no) ∧ w'.cell? ⟨q, 5, none⟩ = some (.slice bo nl.length d) ∧ w'.cell? ⟨gb, ob + m * 6, none⟩ = some (.int .i64 gsc) ∧ w'.cell? ⟨gb, ob + m * 6 + 1, none⟩ = some (.int .u64 (gze : Int)) ∧ w'.cell? ⟨gb, ob + m * 6 + 2, none⟩ = some (.int .i64 gpo) ∧ w'.cell? ⟨gb, ob + m * 6 + 3, none⟩ = some (.slice a1 gpl.length c1) ∧ w'.cell? ⟨gb, ob + m * 6 + 4, none⟩ = some (.int .i64 gno) ∧ w'.cell? ⟨gb, ob + m * 6 + 5, none⟩ = some (.slice a2 gnl.length c2)) w1) := by
        obtain ⟨x0, x1, x2, x3, x4, x5⟩ := HistBox.c (h := ⟨sc, ze, po, pl, no, nl⟩) (HistBox.same HB0.out HK1.out (fun x => x))
        obtain ⟨z0, z1, z2, z3, z4, z5⟩ := HElt.keptS HEL.out HK1.out (fun x => x)
        exact Lib.hid ⟨x0, x1, x2, x3, x4, x5, z0, z1, z2, z3, z4, z5⟩
      go_wp2
      refine hK.out _ _ (HSSb.out) ?_
      clear hK K
      try simp only [Act.put, List.getElem_toArray, List.getElem_cons_succ, List.getElem_cons_zero, List.setIfInBounds_toArray, List.set_cons_zero, List.set_cons_succ]
      refine AnyBut.takeS (i := 10) (v := ?v31) rfl (by kernel_rfl) (Nat.le_of_eq (by kernel_rfl)) (by kernel_rfl) (by kernel_rfl) (fun _ _ _ h => h) (HSSb.out) (Or.inl ⟨by kernel_rfl, ?hy31⟩) ?r31
      case hy31 =>
        intro w hSw
        try dsimp only at hSw
        go_simp
        try with_reducible rfl
      try simp only [Act.put, List.getElem_toArray, List.getElem_cons_succ, List.getElem_cons_zero, List.setIfInBounds_toArray, List.set_cons_zero, List.set_cons_succ]
      refine AnyBut.done (by kernel_rfl) ?_
      have HBq := Lib.hid (HB0.out.same HK1.out (fun x => x))
      have HAq := Lib.hid (HA0.out.on HK1.out)
      have HKq := Lib.hid (HK0.out.trans HK1.out)
      have HM1 := Lib.hid (show Mine w1 (w1.alloc (.cells #[.int .i64 1] 3)) 3 (.slice (some ⟨w1.heap.size, 0, none⟩) 1 1) (ints [true]) from ⟨own_freshZ w1 _ 1 [.int .i64 1] 1 rfl (by simp [maxLen]), (Kept.refl _ _).alloc _⟩)
      obtain ⟨wa, hwa⟩ : ∃ w', w' = w1.alloc (.cells #[.int .i64 1] 3) := ⟨_, rfl⟩
      rw [← hwa] at HM1
      have HWA := Lib.hid hwa
      clear hwa
      obtain ⟨ha1, hha1⟩ : ∃ x, x = w1.heap.size := ⟨_, rfl⟩
      rw [← hha1] at HM1
      have HHA := Lib.hid hha1
      clear hha1
      go_upto_region 4 with fail
      rw [← HWA.out, ← HHA.out]
      have hkd := (Kept.refl (fun _ => False) wa).drew
      have HKb := Lib.hid (HM1.out.kept.trans hkd)
      have HM2b := Lib.hid (HM1.out.on hkd)
      have HSSc : Hid ((fun w' => w'.cell? ⟨q, 0, none⟩ = some (.int .i64 sc) ∧ w'.cell? ⟨q, 1, none⟩ = some (.int .u64 (ze : Int)) ∧ w'.cell? ⟨q, 2, none⟩ = some (.int .i64 po) ∧ w'.cell? ⟨q, 3, none⟩ = some (.slice ao pl.length c) ∧ w'.cell? ⟨q, 4, none⟩ = some (.int .i64 no) ∧ w'.cell? ⟨q, 5, none⟩ = some (.slice bo nl.length d) ∧ w'.cell? ⟨gb, ob + m * 6, none⟩ = some (.int .i64 gsc) ∧ w'.cell? ⟨gb, ob + m * 6 + 1, none⟩ = some (.int .u64 (gze : Int)) ∧ w'.cell? ⟨gb, ob + m * 6 + 2, none⟩ = some (.int .i64 gpo) ∧ w'.cell? ⟨gb, ob + m * 6 + 3, none⟩ = some (.slice a1 gpl.length c1) ∧ w'.cell? ⟨gb, ob + m * 6 + 4, none⟩ = some (.int .i64 gno) ∧ w'.cell? ⟨gb, ob + m * 6 + 5, none⟩ = some (.slice a2 gnl.length c2)) wa.drew) := by
        obtain ⟨x0, x1, x2, x3, x4, x5⟩ := HistBox.c (h := ⟨sc, ze, po, pl, no, nl⟩) (HistBox.same HB0.out (HK1.out.trans HKb.out) (fun x => x))
        obtain ⟨z0, z1, z2, z3, z4, z5⟩ := HElt.keptS HEL.out (HK1.out.trans HKb.out) (fun x => x)
        exact Lib.hid ⟨x0, x1, x2, x3, x4, x5, z0, z1, z2, z3, z4, z5⟩
      clear hkd
      refine AnyBut.start (S := fun w' => w'.cell? ⟨q, 0, none⟩ = some (.int .i64 sc) ∧ w'.cell? ⟨q, 1, none⟩ = some (.int .u64 (ze : Int)) ∧ w'.cell? ⟨q, 2, none⟩ = some (.int .i64 po) ∧ w'.cell? ⟨q, 3, none⟩ = some (.slice ao pl.length c) ∧ w'.cell? ⟨q, 4, none⟩ = some (.int .i64 no) ∧ w'.cell? ⟨q, 5, none⟩ = some (.slice bo nl.length d) ∧ w'.cell? ⟨gb, ob + m * 6, none⟩ = some (.int .i64 gsc) ∧ w'.cell? ⟨gb, ob + m * 6 + 1, none⟩ = some (.int .u64 (gze : Int)) ∧ w'.cell? ⟨gb, ob + m * 6 + 2, none⟩ = some (.int .i64 gpo) ∧ w'.cell? ⟨gb, ob + m * 6 + 3, none⟩ = some (.slice a1 gpl.length c1) ∧ w'.cell? ⟨gb, ob + m * 6 + 4, none⟩ = some (.int .i64 gno) ∧ w'.cell? ⟨gb, ob + m * 6 + 5, none⟩ = some (.slice a2 gnl.length c2)) (k := 9) (by kernel_rfl) ?_
      refine AnyBut.take (i := 0) (v := ?v32) rfl (by kernel_rfl) (by kernel_rfl) (by kernel_rfl) (by kernel_rfl) (fun _ _ _ h => h) (HSSc.out) (Or.inl ⟨by kernel_rfl, ?hy32⟩) ?r32
      case hy32 =>
        intro w hSw
        try dsimp only at hSw
        go_simp
        try with_reducible rfl
      try simp only [Act.put, List.getElem_toArray, List.getElem_cons_zero, List.setIfInBounds_toArray, List.set_cons_zero, List.set_cons_succ]
      refine AnyBut.take (i := 2) (v := ?v33) rfl (by kernel_rfl) (by kernel_rfl) (by kernel_rfl) (by kernel_rfl) (fun _ _ _ h => h) (HSSc.out) (Or.inl ⟨by kernel_rfl, ?hy33⟩) ?r33
      case hy33 =>
        intro w hSw
        try dsimp only at hSw
        go_simp
        try with_reducible rfl
      try simp only [Act.put, List.getElem_toArray, List.getElem_cons_succ, List.getElem_cons_zero, List.setIfInBounds_toArray, List.set_cons_zero, List.set_cons_succ]
      refine AnyBut.take (i := 3) (v := ?v34) rfl (by kernel_rfl) (by kernel_rfl) (by kernel_rfl) (by kernel_rfl) (fun _ _ _ h => h) (HSSc.out) (Or.inl ⟨by kernel_rfl, ?hy34⟩) ?r34
      case hy34 =>
        intro w hSw
        try dsimp only at hSw
        go_simp
        try with_reducible rfl
      try simp only [Act.put, List.getElem_toArray, List.getElem_cons_succ, List.getElem_cons_zero, List.setIfInBounds_toArray, List.set_cons_zero, List.set_cons_succ]
      refine AnyBut.take (i := 4) (v := ?v35) rfl (by kernel_rfl) (by kernel_rfl) (by kernel_rfl) (by kernel_rfl) (fun _ _ _ h => h) (HSSc.out) (Or.inl ⟨by kernel_rfl, ?hy35⟩) ?r35
      case hy35 =>
        intro w hSw
        try dsimp only at hSw
        go_simp
        try with_reducible rfl
      try simp only [Act.put, List.getElem_toArray, List.getElem_cons_succ, List.getElem_cons_zero, List.setIfInBounds_toArray, List.set_cons_zero, List.set_cons_succ]
      refine AnyBut.take (i := 5) (v := ?v36) rfl (by kernel_rfl) (by kernel_rfl) (by kernel_rfl) (by kernel_rfl) (fun _ _ _ h => h) (HSSc.out) (Or.inl ⟨by kernel_rfl, ?hy36⟩) ?r36
      case hy36 =>
        intro w hSw
        try dsimp only at hSw
        go_simp
        try with_reducible rfl
      try simp only [Act.put, List.getElem_toArray, List.getElem_cons_succ, List.getElem_cons_zero, List.setIfInBounds_toArray, List.set_cons_zero, List.set_cons_succ]
      refine AnyBut.take (i := 6) (v := ?v37) rfl (by kernel_rfl) (by kernel_rfl) (by kernel_rfl) (by kernel_rfl) (fun _ _ _ h => h) (HSSc.out) (Or.inl ⟨by kernel_rfl, ?hy37⟩) ?r37
      case hy37 =>
        intro w hSw
        try dsimp only at hSw
        go_simp
        try with_reducible rfl
      try simp only [Act.put, List.getElem_toArray, List.getElem_cons_succ, List.getElem_cons_zero, List.setIfInBounds_toArray, List.set_cons_zero, List.set_cons_succ]
      refine AnyBut.one (i := 1) (by kernel_rfl) rfl (fun K hK => ?_)
      go_simp
      go_wp2_with fail
      refine (HAL.out _ (HAq.out.on HKb.out)).mono ?_
      rintro e w4 ⟨a4, c4, rfl, m4⟩
      have HM4 := Lib.hid (m4.down HKb.out)
      have HT4 := Lib.hid (HM2b.out.on m4.kept)
      have HK4 := Lib.hid (HKb.out.trans m4.kept)
      clear m4
      have HSSd : Hid ((fun w' => w'.cell? ⟨q, 0, none⟩ = some (.int .i64 sc) ∧ w'.cell? ⟨q, 1, none⟩ = some (.int .u64 (ze : Int)) ∧ w'.cell? ⟨q, 2, none⟩ = some (.int .i64 po) ∧ w'.cell? ⟨q, 3, none⟩ = some (.slice ao pl.length c) ∧ w'.cell? ⟨q, 4, none⟩ = some (.int .i64 no) ∧ w'.cell? ⟨q, 5, none⟩ = some (.slice bo nl.length d) ∧ w'.cell? ⟨gb, ob + m * 6, none⟩ = some (.int .i64 gsc) ∧ w'.cell? ⟨gb, ob + m * 6 + 1, none⟩ = some (.int .u64 (gze : Int)) ∧ w'.cell? ⟨gb, ob + m * 6 + 2, none⟩ = some (.int .i64 gpo) ∧ w'.cell? ⟨gb, ob + m * 6 + 3, none⟩ = some (.slice a1 gpl.length c1) ∧ w'.cell? ⟨gb, ob + m * 6 + 4, none⟩ = some (.int .i64 gno) ∧ w'.cell? ⟨gb, ob + m * 6 + 5, none⟩ = some (.slice a2 gnl.length c2)) w4) := by
        obtain ⟨x0, x1, x2, x3, x4, x5⟩ := HistBox.c (h := ⟨sc, ze, po, pl, no, nl⟩) (HistBox.same HB0.out (HK1.out.trans HK4.out) (fun x => x))
        obtain ⟨z0, z1, z2, z3, z4, z5⟩ := HElt.keptS HEL.out (HK1.out.trans HK4.out) (fun x => x)
        exact Lib.hid ⟨x0, x1, x2, x3, x4, x5, z0, z1, z2, z3, z4, z5⟩
      go_wp2
      refine hK.out _ _ (HSSd.out) ?_
      clear hK K
      try simp only [Act.put, List.getElem_toArray, List.getElem_cons_succ, List.getElem_cons_zero, List.setIfInBounds_toArray, List.set_cons_zero, List.set_cons_succ]
      refine AnyBut.one (i := 7) (by kernel_rfl) rfl (fun K hK => ?_)
      go_simp
      go_wp2_with fail
      refine (HAG.out _ (HPA.out.on (HK1.out.trans HK4.out))).mono ?_
      rintro e w5 ⟨a5, c5, rfl, m5⟩
      rw [HDL.out] at m5 ⊢
      have HM5 := Lib.hid (m5.down HK4.out)
      have HC5 := Lib.hid (HM4.out.on m5.kept)
      have HT5 := Lib.hid (HT4.out.on m5.kept)
      have HK5 := Lib.hid (HK4.out.trans m5.kept)
      clear m5
      have HSSe : Hid ((fun w' => w'.cell? ⟨q, 0, none⟩ = some (.int .i64 sc) ∧ w'.cell? ⟨q, 1, none⟩ = some (.int .u64 (ze : Int)) ∧ w'.cell? ⟨q, 2, none⟩ = some (.int .i64 po) ∧ w'.cell? ⟨q, 3, none⟩ = some (.slice ao pl.length c) ∧ w'.cell? ⟨q, 4, none⟩ = some (.int .i64 no) ∧ w'.cell? ⟨q, 5, none⟩ = some (.slice bo nl.length d) ∧ w'.cell? ⟨gb, ob + m * 6, none⟩ = some (.int .i64 gsc) ∧ w'.cell? ⟨gb, ob + m * 6 + 1, none⟩ = some (.int .u64 (gze : Int)) ∧ w'.cell? ⟨gb, ob + m * 6 + 2, none⟩ = some (.int .i64 gpo) ∧ w'.cell? ⟨gb, ob + m * 6 + 3, none⟩ = some (.slice a1 gpl.length c1) ∧ w'.cell? ⟨gb, ob + m * 6 + 4, none⟩ = some (.int .i64 gno) ∧ w'.cell? ⟨gb, ob + m * 6 + 5, none⟩ = some (.slice a2 gnl.length c2)) w5) := by
        obtain ⟨x0, x1, x2, x3, x4, x5⟩ := HistBox.c (h := ⟨sc, ze, po, pl, no, nl⟩) (HistBox.same HB0.out (HK1.out.trans HK5.out) (fun x => x))
        obtain ⟨z0, z1, z2, z3, z4, z5⟩ := HElt.keptS HEL.out (HK1.out.trans HK5.out) (fun x => x)
        exact Lib.hid ⟨x0, x1, x2, x3, x4, x5, z0, z1, z2, z3, z4, z5⟩
      go_wp2
      refine hK.out _ _ (HSSe.out) ?_
      clear hK K
      try simp only [Act.put, List.getElem_toArray, List.getElem_cons_succ, List.getElem_cons_zero, List.setIfInBounds_toArray, List.set_cons_zero, List.set_cons_succ]
      refine AnyBut.take (i := 8) (v := ?v38) rfl (by kernel_rfl) (by kernel_rfl) (by kernel_rfl) (by kernel_rfl) (fun _ _ _ h => h) (HSSe.out) (Or.inl ⟨by kernel_rfl, ?hy38⟩) ?r38
      case hy38 =>
        intro w hSw
        try dsimp only at hSw
        go_simp
        try with_reducible rfl
      try simp only [Act.put, List.getElem_toArray, List.getElem_cons_succ, List.getElem_cons_zero, List.setIfInBounds_toArray, List.set_cons_zero, List.set_cons_succ]
      refine AnyBut.last (by kernel_rfl) rfl (by kernel_rfl) (fun K hK => ?_)
      go_simp
      refine hK.out _ _ ?_
      clear hK K
      try simp only [Act.put, List.getElem_toArray, List.getElem_cons_succ, List.getElem_cons_zero, List.setIfInBounds_toArray, List.set_cons_zero, List.set_cons_succ]
      go_wp2
      go_loopg [6, 9] N (fun g s6 s9 wr => ∃ i : Nat, i ≤ N ∧ g = N - i ∧ s9 = .int .i64 i ∧ Mine w1 wr 3 s6 (ints (true :: difB (C.take i) D)) ∧ Mine w1 wr 28 (.slice a4 N c4) (uvals C) ∧ Mine w1 wr 28 (.slice a5 N c5) (uvals D))
      case atStart => exact ⟨0, Nat.zero_le _, rfl, rfl, by simpa [difB] using HT5.out, HC5.out, HM5.out⟩
      case round =>
        obtain ⟨i, hiN, rfl, rfl, hx, hc, hdd⟩ := hrel
        have HX := Lib.hid hx
        have HCr := Lib.hid hc
        have HDr := Lib.hid hdd
        obtain ⟨ax, cx, ex⟩ := hx.slice
        obtain ⟨nx, hnx⟩ : ∃ n, n = (ints (true :: difB (C.take i) D)).length := ⟨_, rfl⟩
        rw [← hnx] at ex
        subst ex
        have HNX := Lib.hid hnx
        clear hx hc hdd hnx
        by_cases hd : i < N
        · have hdi : (i : Int) < (N : Int) := by omega
          have HD := Lib.hid hd
          have wi : IntKind.i64.wrap ((i : Int) + 1) = ((i + 1 : Nat) : Int) := by rw [IntWalk.i64_in _ ⟨by omega, by have := HNN.out; omega⟩]; omega
          obtain ⟨gq, off, ha3, hc3⟩ := HCr.out.at_.elem (uvals_get (l := C) (j := i) (by have := HCN.out; omega))
          cases ha3
          obtain ⟨gr, ofr, ha4, hc4⟩ := HDr.out.at_.elem (uvals_get (l := D) (j := i) (by have := HDN.out; omega))
          cases ha4
          obtain ⟨x, hx⟩ : ∃ x, x = C.getD i 0 := ⟨_, rfl⟩
          obtain ⟨y, hy⟩ : ∃ y, y = D.getD i 0 := ⟨_, rfl⟩
          rw [← hx] at hc3
          rw [← hy] at hc4
          have HPQ := Lib.hid (And.intro hc3 hc4)
          have HXY := Lib.hid (And.intro hx hy)
          have HST := Lib.hid (difB_take C D i (by have := HCN.out; omega))
          rw [← hx, ← hy] at HST
          have hdr := difI_range x y
          have hdw := difI_wrap x y
          obtain ⟨DI, hDI⟩ : ∃ z, z = difI x y := ⟨_, rfl⟩
          rw [← hDI] at HST hdr hdw
          have hz := zgN_eq DI hdr.1 hdr.2
          have HZ := Lib.hid fun w => refZig_any DI hdr.1 hdr.2 w
          rw [hz.1] at HZ
          obtain ⟨Z, hZ⟩ : ∃ z, z = zgN DI := ⟨_, rfl⟩
          rw [← hZ] at HZ hz HST
          have HSM := Lib.hid fun w => smallTo_any Z hz.2 w
          obtain ⟨U, hU⟩ : ∃ z, z = IntKind.u64.wrap ((x : Int) - (y : Int)) := ⟨_, rfl⟩
          rw [← hU] at hdw
          replace hU := hU.symm
          have HLS := Lib.hid (show nx + (smallB Z).length ≤ 1000000 by have h1 := HNX.out; have h2 := smallB_len Z; have h3 := difB_len (C.take i) D; have h5 := HNN.out; rw [ints_length, List.length_cons] at h1; rw [List.length_take] at h3; omega)
          have hkr := (Kept.refl (fun _ => False) wr).drew
          have HSSf : Hid ((fun w' => w'.cell? ⟨gq, off + i, none⟩ = some (.int .u64 (x : Int)) ∧ w'.cell? ⟨gr, ofr + i, none⟩ = some (.int .u64 (y : Int))) wr.drew) := Lib.hid ⟨hkr.cell hc3 (fun x => x), hkr.cell hc4 (fun x => x)⟩
          have HKr := Lib.hid hkr
          clear hx hy hd hdr hDI hz hZ hkr hc3 hc4
          go_upto_region 8 with fail
          refine AnyBut.start (S := fun w' => w'.cell? ⟨gq, off + i, none⟩ = some (.int .u64 (x : Int)) ∧ w'.cell? ⟨gr, ofr + i, none⟩ = some (.int .u64 (y : Int))) (k := 14) (by kernel_rfl) ?_
          refine AnyBut.take (i := 0) (v := ?v39) rfl (by kernel_rfl) (by kernel_rfl) (by kernel_rfl) (by kernel_rfl) (fun _ _ _ h => h) (HSSf.out) (Or.inl ⟨by kernel_rfl, ?hy39⟩) ?r39
          case hy39 =>
            intro w hSw
            try dsimp only at hSw
            go_simp
            try with_reducible rfl
          try simp only [Act.put, List.getElem_toArray, List.getElem_cons_zero, List.setIfInBounds_toArray, List.set_cons_zero, List.set_cons_succ]
          refine AnyBut.take (i := 1) (v := ?v40) rfl (by kernel_rfl) (by kernel_rfl) (by kernel_rfl) (by kernel_rfl) (fun _ _ _ h => h) (HSSf.out) (Or.inl ⟨by kernel_rfl, ?hy40⟩) ?r40
          case hy40 =>
            intro w hSw
            try dsimp only at hSw
            go_simp
            try with_reducible rfl
          try simp only [Act.put, List.getElem_toArray, List.getElem_cons_succ, List.getElem_cons_zero, List.setIfInBounds_toArray, List.set_cons_zero, List.set_cons_succ]
          refine AnyBut.take (i := 2) (v := ?v41) rfl (by kernel_rfl) (by kernel_rfl) (by kernel_rfl) (by kernel_rfl) (fun _ _ _ h => h) (HSSf.out) (Or.inl ⟨by kernel_rfl, ?hy41⟩) ?r41
          case hy41 =>
            intro w hSw
            try dsimp only at hSw
            go_simp
            try with_reducible rfl
          try simp only [Act.put, List.getElem_toArray, List.getElem_cons_succ, List.getElem_cons_zero, List.setIfInBounds_toArray, List.set_cons_zero, List.set_cons_succ]
          refine AnyBut.take (i := 3) (v := ?v42) rfl (by kernel_rfl) (by kernel_rfl) (by kernel_rfl) (by kernel_rfl) (fun _ _ _ h => h) (HSSf.out) (Or.inl ⟨by kernel_rfl, ?hy42⟩) ?r42
          case hy42 =>
            intro w hSw
            try dsimp only at hSw
            go_simp
            try with_reducible rfl
          try simp only [Act.put, List.getElem_toArray, List.getElem_cons_succ, List.getElem_cons_zero, List.setIfInBounds_toArray, List.set_cons_zero, List.set_cons_succ]
          refine AnyBut.take (i := 4) (v := ?v43) rfl (by kernel_rfl) (by kernel_rfl) (by kernel_rfl) (by kernel_rfl) (fun _ _ _ h => h) (HSSf.out) (Or.inl ⟨by kernel_rfl, ?hy43⟩) ?r43
          case hy43 =>
            intro w hSw
            try dsimp only at hSw
            go_simp
            try with_reducible rfl
          try simp only [Act.put, List.getElem_toArray, List.getElem_cons_succ, List.getElem_cons_zero, List.setIfInBounds_toArray, List.set_cons_zero, List.set_cons_succ]
          refine AnyBut.take (i := 5) (v := ?v44) rfl (by kernel_rfl) (by kernel_rfl) (by kernel_rfl) (by kernel_rfl) (fun _ _ _ h => h) (HSSf.out) (Or.inl ⟨by kernel_rfl, ?hy44⟩) ?r44
          case hy44 =>
            intro w hSw
            try dsimp only at hSw
            go_simp
            try with_reducible rfl
          try simp only [Act.put, List.getElem_toArray, List.getElem_cons_succ, List.getElem_cons_zero, List.setIfInBounds_toArray, List.set_cons_zero, List.set_cons_succ]
          refine AnyBut.take (i := 6) (v := ?v45) rfl (by kernel_rfl) (by kernel_rfl) (by kernel_rfl) (by kernel_rfl) (fun _ _ _ h => h) (HSSf.out) (Or.inl ⟨by kernel_rfl, ?hy45⟩) ?r45
          case hy45 =>
            intro w hSw
            try dsimp only at hSw
            go_simp
            try with_reducible rfl
          try simp only [Act.put, List.getElem_toArray, List.getElem_cons_succ, List.getElem_cons_zero, List.setIfInBounds_toArray, List.set_cons_zero, List.set_cons_succ]
          refine AnyBut.take (i := 7) (v := ?v46) rfl (by kernel_rfl) (by kernel_rfl) (by kernel_rfl) (by kernel_rfl) (fun _ _ _ h => h) (HSSf.out) (Or.inl ⟨by kernel_rfl, ?hy46⟩) ?r46
          case hy46 =>
            intro w hSw
            try dsimp only at hSw
            go_simp
            try with_reducible rfl
          try simp only [Act.put, List.getElem_toArray, List.getElem_cons_succ, List.getElem_cons_zero, List.setIfInBounds_toArray, List.set_cons_zero, List.set_cons_succ]
          refine AnyBut.take (i := 8) (v := ?v47) rfl (by kernel_rfl) (by kernel_rfl) (by kernel_rfl) (by kernel_rfl) (fun _ _ _ h => h) (HSSf.out) (Or.inl ⟨by kernel_rfl, ?hy47⟩) ?r47
          case hy47 =>
            intro w hSw
            try dsimp only at hSw
            go_simp
            try with_reducible rfl
          try simp only [Act.put, List.getElem_toArray, List.getElem_cons_succ, List.getElem_cons_zero, List.setIfInBounds_toArray, List.set_cons_zero, List.set_cons_succ]
          refine AnyBut.take (i := 9) (v := ?v48) rfl (by kernel_rfl) (by kernel_rfl) (by kernel_rfl) (by kernel_rfl) (fun _ _ _ h => h) (HSSf.out) (Or.inl ⟨by kernel_rfl, ?hy48⟩) ?r48
          case hy48 =>
            intro w hSw
            try dsimp only at hSw
            go_simp
            try with_reducible rfl
          try simp only [Act.put, List.getElem_toArray, List.getElem_cons_succ, List.getElem_cons_zero, List.setIfInBounds_toArray, List.set_cons_zero, List.set_cons_succ]
          refine AnyBut.take (i := 10) (v := ?v49) rfl (by kernel_rfl) (by kernel_rfl) (by kernel_rfl) (by kernel_rfl) (fun _ _ _ h => h) (HSSf.out) (Or.inl ⟨by kernel_rfl, ?hy49⟩) ?r49
          case hy49 =>
            intro w hSw
            try dsimp only at hSw
            go_simp
            try with_reducible rfl
          try simp only [Act.put, List.getElem_toArray, List.getElem_cons_succ, List.getElem_cons_zero, List.setIfInBounds_toArray, List.set_cons_zero, List.set_cons_succ]
          refine AnyBut.one (i := 11) (by kernel_rfl) rfl (fun K hK => ?_)
          go_simp
          go_wp2_with fail
          refine (HZ.out _).mono ?_
          rintro e w' ⟨rfl, rfl⟩
          go_wp2
          refine hK.out _ _ (HSSf.out) ?_
          clear hK K
          try simp only [Act.put, List.getElem_toArray, List.getElem_cons_succ, List.getElem_cons_zero, List.setIfInBounds_toArray, List.set_cons_zero, List.set_cons_succ]
          refine AnyBut.one (i := 12) (by kernel_rfl) rfl (fun K hK => ?_)
          go_simp
          go_wp2_with fail
          refine (HSM.out _).mono ?_
          rintro e w7 ⟨a7, c7, rfl, m7⟩
          have HX7 := Lib.hid ((HX.out.on HKr.out).on m7.kept)
          have HC7 := Lib.hid ((HCr.out.on HKr.out).on m7.kept)
          have HD7 := Lib.hid ((HDr.out.on HKr.out).on m7.kept)
          have HS7 := Lib.hid m7.srcB
          have HKt := Lib.hid (HKr.out.trans m7.kept)
          clear m7
          have HSSg : Hid ((fun w' => w'.cell? ⟨gq, off + i, none⟩ = some (.int .u64 (x : Int)) ∧ w'.cell? ⟨gr, ofr + i, none⟩ = some (.int .u64 (y : Int))) w7) := Lib.hid ⟨HKt.out.cell HPQ.out.1 (fun x => x), HKt.out.cell HPQ.out.2 (fun x => x)⟩
          go_wp2
          refine hK.out _ _ (HSSg.out) ?_
          clear hK K
          try simp only [Act.put, List.getElem_toArray, List.getElem_cons_succ, List.getElem_cons_zero, List.setIfInBounds_toArray, List.set_cons_zero, List.set_cons_succ]
          refine AnyBut.one (i := 13) (by kernel_rfl) rfl (fun K hK => ?_)
          refine step_mineI2 (by rfl) (.tmp 41) (.tmp 53) (by rfl) w1 _ _ (by rfl) HX7.out _ (ints (smallB Z)) (by rfl) HS7.out (by rw [← HNX.out, ints_length]; have := HLS.out; omega) ?_
          intro v8 w8 hm8 hk8 _
          have HX8 := Lib.hid hm8
          have HC8 := Lib.hid (HC7.out.besideInt HX7.out hk8)
          have HD8 := Lib.hid (HD7.out.besideInt HX7.out hk8)
          have HSSh : Hid ((fun w' => w'.cell? ⟨gq, off + i, none⟩ = some (.int .u64 (x : Int)) ∧ w'.cell? ⟨gr, ofr + i, none⟩ = some (.int .u64 (y : Int))) w8) := Lib.hid (by
            obtain ⟨g1, o1, e1, c1⟩ := HC8.out.at_.elem (uvals_get (l := C) (j := i) (by have := HCN.out; have := HD.out; omega))
            obtain ⟨g2, o2, e2, c2⟩ := HD8.out.at_.elem (uvals_get (l := D) (j := i) (by have := HDN.out; have := HD.out; omega))
            injection e1 with e1; injection e1 with e1 e1'; injection e2 with e2; injection e2 with e2 e2'
            subst e1 e1' e2 e2'
            exact ⟨by rw [HXY.out.1]; exact c1, by rw [HXY.out.2]; exact c2⟩)
          clear hm8 hk8
          refine hK.out _ _ (HSSh.out) ?_
          clear hK K
          try simp only [Act.put, List.getElem_toArray, List.getElem_cons_succ, List.getElem_cons_zero, List.setIfInBounds_toArray, List.set_cons_zero, List.set_cons_succ]
          refine AnyBut.last (by kernel_rfl) rfl (by kernel_rfl) (fun K hK => ?_)
          go_simp
          refine hK.out _ _ ?_
          clear hK K
          try simp only [Act.put, List.getElem_toArray, List.getElem_cons_succ, List.getElem_cons_zero, List.setIfInBounds_toArray, List.set_cons_zero, List.set_cons_succ]
          go_wp2
          go_roundg (N - (i + 1))
          case measure => have := HD.out; omega
          case rel => exact ⟨i + 1, HD.out, rfl, rfl, by rw [HST.out]; have h := HX8.out; rw [← ints_append] at h; exact h, HC8.out, HD8.out⟩
        · obtain rfl : N = i := by omega
          go_wp2
          go_ret
          rw [HE.out]
          have hx := HX.out
          rw [← HCN.out, List.take_length] at hx
          exact bitsTo_mine HKq.out hx
    · have HE := Lib.hid (show nextH n P.h h = false :: shapeB h ++ C.flatMap smallB by rw [HND.out, if_neg (fun e => hal e.2)]; rfl)
      rw [decide_eq_false (show ¬ alikeH P.h h from fun e => hal ⟨e.1.symm, e.2.1.symm, e.2.2.1.symm, e.2.2.2.1.symm, e.2.2.2.2.symm⟩)] at HLK
      clear hL hin ha hok he hsc hp hnl hSC hC hN hk0 hw0 hq hln hn hCN hn0 hal hm hLm hP hrec hPin hlast hmn hD hDL
      obtain ⟨sc, ze, po, pl, no, nl⟩ := h
      unfold histV at HAL ⊢
      dsimp only at HAL HSP HSN HAA HB0 HA0 HSB HLB s2 HND ⊢
      try dsimp only at HE
      obtain ⟨⟨gsc, gze, gpo, gpl, gno, gnl⟩, a1, c1, a2, c2⟩ := P
      unfold histV HP.pv HP.nv at HLK HAG
      unfold HP.pv HP.nv at HPA
      dsimp only at HLK HAG HPA HEL HND ⊢
      try dsimp only at HE
      go_enter Tryd.func41, Tryd.ntmps41
      go_upto_region 1 with fail
      rw [← HW0.out, ← HQ.out]
      go_upto_region 2 with fail
      have hkd := (Kept.refl (fun _ => False) w0).drew
      have HSSa : Hid ((fun w' => w'.cell? ⟨q, 0, none⟩ = some (.int .i64 sc) ∧ w'.cell? ⟨q, 1, none⟩ = some (.int .u64 (ze : Int)) ∧ w'.cell? ⟨q, 2, none⟩ = some (.int .i64 po) ∧ w'.cell? ⟨q, 3, none⟩ = some (.slice ao pl.length c) ∧ w'.cell? ⟨q, 4, none⟩ = some (.int .i64 no) ∧ w'.cell? ⟨q, 5, none⟩ = some (.slice bo nl.length d) ∧ w'.cell? ⟨gb, ob + m * 6, none⟩ = some (.int .i64 gsc) ∧ w'.cell? ⟨gb, ob + m * 6 + 1, none⟩ = some (.int .u64 (gze : Int)) ∧ w'.cell? ⟨gb, ob + m * 6 + 2, none⟩ = some (.int .i64 gpo) ∧ w'.cell? ⟨gb, ob + m * 6 + 3, none⟩ = some (.slice a1 gpl.length c1) ∧ w'.cell? ⟨gb, ob + m * 6 + 4, none⟩ = some (.int .i64 gno) ∧ w'.cell? ⟨gb, ob + m * 6 + 5, none⟩ = some (.slice a2 gnl.length c2)) w0.drew) := by
        obtain ⟨x0, x1, x2, x3, x4, x5⟩ := HistBox.c (h := ⟨sc, ze, po, pl, no, nl⟩) (HistBox.same HB0.out hkd (fun x => x))
        obtain ⟨z0, z1, z2, z3, z4, z5⟩ := HElt.keptS HEL.out hkd (fun x => x)
        exact Lib.hid ⟨x0, x1, x2, x3, x4, x5, z0, z1, z2, z3, z4, z5⟩
      have HKD := Lib.hid hkd
      clear hkd
      refine AnyBut.start (S := fun w' => w'.cell? ⟨q, 0, none⟩ = some (.int .i64 sc) ∧ w'.cell? ⟨q, 1, none⟩ = some (.int .u64 (ze : Int)) ∧ w'.cell? ⟨q, 2, none⟩ = some (.int .i64 po) ∧ w'.cell? ⟨q, 3, none⟩ = some (.slice ao pl.length c) ∧ w'.cell? ⟨q, 4, none⟩ = some (.int .i64 no) ∧ w'.cell? ⟨q, 5, none⟩ = some (.slice bo nl.length d) ∧ w'.cell? ⟨gb, ob + m * 6, none⟩ = some (.int .i64 gsc) ∧ w'.cell? ⟨gb, ob + m * 6 + 1, none⟩ = some (.int .u64 (gze : Int)) ∧ w'.cell? ⟨gb, ob + m * 6 + 2, none⟩ = some (.int .i64 gpo) ∧ w'.cell? ⟨gb, ob + m * 6 + 3, none⟩ = some (.slice a1 gpl.length c1) ∧ w'.cell? ⟨gb, ob + m * 6 + 4, none⟩ = some (.int .i64 gno) ∧ w'.cell? ⟨gb, ob + m * 6 + 5, none⟩ = some (.slice a2 gnl.length c2)) (k := 11) (by kernel_rfl) ?_
      refine AnyBut.takeS (i := 0) (v := ?v12) rfl (by kernel_rfl) (Nat.le_of_eq (by kernel_rfl)) (by kernel_rfl) (by kernel_rfl) (fun _ _ _ h => h) (HSSa.out) (Or.inl ⟨by kernel_rfl, ?hy12⟩) ?r12
      case hy12 =>
        intro w hSw
        try dsimp only at hSw
        go_simp
        try with_reducible rfl
      try simp only [Act.put, List.getElem_toArray, List.getElem_cons_zero, List.setIfInBounds_toArray, List.set_cons_zero, List.set_cons_succ]
      refine AnyBut.takeS (i := 1) (v := ?v13) rfl (by kernel_rfl) (Nat.le_of_eq (by kernel_rfl)) (by kernel_rfl) (by kernel_rfl) (fun _ _ _ h => h) (HSSa.out) (Or.inl ⟨by kernel_rfl, ?hy13⟩) ?r13
      case hy13 =>
        intro w hSw
        try dsimp only at hSw
        go_simp
        try with_reducible rfl
      try simp only [Act.put, List.getElem_toArray, List.getElem_cons_succ, List.getElem_cons_zero, List.setIfInBounds_toArray, List.set_cons_zero, List.set_cons_succ]
      refine AnyBut.takeS (i := 2) (v := ?v14) rfl (by kernel_rfl) (Nat.le_of_eq (by kernel_rfl)) (by kernel_rfl) (by kernel_rfl) (fun _ _ _ h => h) (HSSa.out) (Or.inl ⟨by kernel_rfl, ?hy14⟩) ?r14
      case hy14 =>
        intro w hSw
        try dsimp only at hSw
        go_simp
        try with_reducible rfl
      try simp only [Act.put, List.getElem_toArray, List.getElem_cons_succ, List.getElem_cons_zero, List.setIfInBounds_toArray, List.set_cons_zero, List.set_cons_succ]
      refine AnyBut.takeS (i := 3) (v := ?v15) rfl (by kernel_rfl) (Nat.le_of_eq (by kernel_rfl)) (by kernel_rfl) (by kernel_rfl) (fun _ _ _ h => h) (HSSa.out) (Or.inl ⟨by kernel_rfl, ?hy15⟩) ?r15
      case hy15 =>
        intro w hSw
        try dsimp only at hSw
        go_simp
        try with_reducible rfl
      try simp only [Act.put, List.getElem_toArray, List.getElem_cons_succ, List.getElem_cons_zero, List.setIfInBounds_toArray, List.set_cons_zero, List.set_cons_succ]
      refine AnyBut.takeS (i := 4) (v := ?v16) rfl (by kernel_rfl) (Nat.le_of_eq (by kernel_rfl)) (by kernel_rfl) (by kernel_rfl) (fun _ _ _ h => h) (HSSa.out) (Or.inl ⟨by kernel_rfl, ?hy16⟩) ?r16
      case hy16 =>
        intro w hSw
        try dsimp only at hSw
        go_simp
        try with_reducible rfl
      try simp only [Act.put, List.getElem_toArray, List.getElem_cons_succ, List.getElem_cons_zero, List.setIfInBounds_toArray, List.set_cons_zero, List.set_cons_succ]
      refine AnyBut.takeS (i := 5) (v := ?v17) rfl (by kernel_rfl) (Nat.le_of_eq (by kernel_rfl)) (by kernel_rfl) (by kernel_rfl) (fun _ _ _ h => h) (HSSa.out) (Or.inl ⟨by kernel_rfl, ?hy17⟩) ?r17
      case hy17 =>
        intro w hSw
        try dsimp only at hSw
        go_simp
        try with_reducible rfl
      try simp only [Act.put, List.getElem_toArray, List.getElem_cons_succ, List.getElem_cons_zero, List.setIfInBounds_toArray, List.set_cons_zero, List.set_cons_succ]
      refine AnyBut.takeS (i := 6) (v := ?v18) rfl (by kernel_rfl) (Nat.le_of_eq (by kernel_rfl)) (by kernel_rfl) (by kernel_rfl) (fun _ _ _ h => h) (HSSa.out) (Or.inl ⟨by kernel_rfl, ?hy18⟩) ?r18
      case hy18 =>
        intro w hSw
        try dsimp only at hSw
        go_simp
        try with_reducible rfl
      try simp only [Act.put, List.getElem_toArray, List.getElem_cons_succ, List.getElem_cons_zero, List.setIfInBounds_toArray, List.set_cons_zero, List.set_cons_succ]
      refine AnyBut.takeS (i := 7) (v := ?v19) rfl (by kernel_rfl) (Nat.le_of_eq (by kernel_rfl)) (by kernel_rfl) (by kernel_rfl) (fun _ _ _ h => h) (HSSa.out) (Or.inl ⟨by kernel_rfl, ?hy19⟩) ?r19
      case hy19 =>
        intro w hSw
        try dsimp only at hSw
        go_simp
        try with_reducible rfl
      try simp only [Act.put, List.getElem_toArray, List.getElem_cons_succ, List.getElem_cons_zero, List.setIfInBounds_toArray, List.set_cons_zero, List.set_cons_succ]
      refine AnyBut.takeS (i := 8) (v := ?v20) rfl (by kernel_rfl) (Nat.le_of_eq (by kernel_rfl)) (by kernel_rfl) (by kernel_rfl) (fun _ _ _ h => h) (HSSa.out) (Or.inl ⟨by kernel_rfl, ?hy20⟩) ?r20
      case hy20 =>
        intro w hSw
        try dsimp only at hSw
        go_simp
        try with_reducible rfl
      try simp only [Act.put, List.getElem_toArray, List.getElem_cons_succ, List.getElem_cons_zero, List.setIfInBounds_toArray, List.set_cons_zero, List.set_cons_succ]
      refine AnyBut.one (i := 9) (by kernel_rfl) rfl (fun K hK => ?_)
      go_simp
      go_wp2_with fail
      refine (HLK.out _ (HA0.out.on HKD.out) (HPA.out.on HKD.out)).mono ?_
      rintro e w1 ⟨rfl, k1⟩
      have HK1 := Lib.hid (HKD.out.trans k1)
      clear k1
      have HSSb : Hid ((fun w' => w'.cell? ⟨q, 0, none⟩ = some (.int .i64 sc) ∧ w'.cell? ⟨q, 1, none⟩ = some (.int .u64 (ze : Int)) ∧ w'.cell? ⟨q, 2, none⟩ = some (.int .i64 po) ∧ w'.cell? ⟨q, 3, none⟩ = some (.slice ao pl.length c) ∧ w'.cell? ⟨q, 4, none⟩ = some (.int .i64 no) ∧ w'.cell? ⟨q, 5, none⟩ = some (.slice bo nl.length d) ∧ w'.cell? ⟨gb, ob + m * 6, none⟩ = some (.int .i64 gsc) ∧ w'.cell? ⟨gb, ob + m * 6 + 1, none⟩ = some (.int .u64 (gze : Int)) ∧ w'.cell? ⟨gb, ob + m * 6 + 2, none⟩ = some (.int .i64 gpo) ∧ w'.cell? ⟨gb, ob + m * 6 + 3, none⟩ = some (.slice a1 gpl.length c1) ∧ w'.cell? ⟨gb, ob + m * 6 + 4, none⟩ = some (.int .i64 gno) ∧ w'.cell? ⟨gb, ob + m * 6 + 5, none⟩ = some (.slice a2 gnl.length c2)) w1) := by
        obtain ⟨x0, x1, x2, x3, x4, x5⟩ := HistBox.c (h := ⟨sc, ze, po, pl, no, nl⟩) (HistBox.same HB0.out HK1.out (fun x => x))
        obtain ⟨z0, z1, z2, z3, z4, z5⟩ := HElt.keptS HEL.out HK1.out (fun x => x)
        exact Lib.hid ⟨x0, x1, x2, x3, x4, x5, z0, z1, z2, z3, z4, z5⟩
      go_wp2
      refine hK.out _ _ (HSSb.out) ?_
      clear hK K
      try simp only [Act.put, List.getElem_toArray, List.getElem_cons_succ, List.getElem_cons_zero, List.setIfInBounds_toArray, List.set_cons_zero, List.set_cons_succ]
      refine AnyBut.takeS (i := 10) (v := ?v21) rfl (by kernel_rfl) (Nat.le_of_eq (by kernel_rfl)) (by kernel_rfl) (by kernel_rfl) (fun _ _ _ h => h) (HSSb.out) (Or.inl ⟨by kernel_rfl, ?hy21⟩) ?r21
      case hy21 =>
        intro w hSw
        try dsimp only at hSw
        go_simp
        try with_reducible rfl
      try simp only [Act.put, List.getElem_toArray, List.getElem_cons_succ, List.getElem_cons_zero, List.setIfInBounds_toArray, List.set_cons_zero, List.set_cons_succ]
      refine AnyBut.done (by kernel_rfl) ?_
      have HBq := Lib.hid (HB0.out.same HK1.out (fun x => x))
      have HAq := Lib.hid (HA0.out.on HK1.out)
      have HKq := Lib.hid (HK0.out.trans HK1.out)
      have HM1 := Lib.hid (show Mine w1 (w1.alloc (.cells #[.int .i64 0] 3)) 3 (.slice (some ⟨w1.heap.size, 0, none⟩) 1 1) (ints [false]) from ⟨own_freshZ w1 _ 1 [.int .i64 0] 1 rfl (by simp [maxLen]), (Kept.refl _ _).alloc _⟩)
      obtain ⟨x0, x1, x2, x3, x4, x5⟩ := HistBox.c (h := ⟨sc, ze, po, pl, no, nl⟩) HBq.out
      dsimp only at x0 x1 x2 x3 x4 x5
      have xa := fun o => ((Kept.refl (fun _ => False) w1).alloc o).cell x0 (fun x => x)
      obtain ⟨wa, hwa⟩ : ∃ w', w' = w1.alloc (.cells #[.int .i64 0] 3) := ⟨_, rfl⟩
      rw [← hwa] at HM1
      have HWA := Lib.hid hwa
      clear hwa
      go_wp2_with fail
      rw [← HWA.out]
      refine (HNU.out _).mono ?_
      rintro e w2 ⟨a2', c2', rfl, m2⟩
      have HM2 := Lib.hid (HM1.out.on m2.kept)
      have HS2 := Lib.hid m2.srcB
      clear m2 x0 x1 x2 x3 x4 x5 xa
      go_upto_region 11 with (at_builtin; refine wpList_mineI rfl (.tmp 56) (.tmp 60) rfl w1 _ _ rfl HM2.out _ (ints (bitsN SC 5)) rfl HS2.out (by simp) ?_; intro v3 w3 hm3; obtain ⟨a3, c3, e3⟩ := hm3.slice; obtain ⟨n3, hn3⟩ : ∃ n, v3 = Value.slice a3 n c3 := ⟨_, e3⟩; subst hn3; have HM3 := Lib.hid hm3; clear hm3 e3)
      obtain ⟨x0, x1, x2, x3, x4, x5⟩ := HistBox.c (h := ⟨sc, ze, po, pl, no, nl⟩) (HistBox.same HBq.out HM3.out.kept (fun x => x))
      dsimp only at x0 x1 x2 x3 x4 x5
      go_wp2_with fail
      refine (HSP.out _ (HAq.out.on HM3.out.kept)).mono ?_
      rintro e wb3 ⟨b3, d3, rfl, m3⟩
      have HN3 := Lib.hid (HM3.out.on m3.kept)
      have HT3 := Lib.hid m3.srcB
      clear m3 x0 x1 x2 x3 x4 x5
      go_upto_region 12 with (at_builtin; refine wpList_mineI rfl (.tmp 62) (.tmp 65) rfl w1 _ _ rfl HN3.out _ (ints (sideB po pl.length)) rfl HT3.out (by have := HLB.out; simp; omega) ?_; intro v4 w4 hm4; obtain ⟨a4, c4, e4⟩ := hm4.slice; obtain ⟨n4, hn4⟩ : ∃ n, v4 = Value.slice a4 n c4 := ⟨_, e4⟩; subst hn4; have HM4 := Lib.hid hm4; clear hm4 e4)
      obtain ⟨x0, x1, x2, x3, x4, x5⟩ := HistBox.c (h := ⟨sc, ze, po, pl, no, nl⟩) (HistBox.same HBq.out HM4.out.kept (fun x => x))
      dsimp only at x0 x1 x2 x3 x4 x5
      go_wp2_with fail
      refine (HSN.out _ (HAq.out.on HM4.out.kept)).mono ?_
      rintro e wb4 ⟨b4, d4, rfl, m4⟩
      have HN4 := Lib.hid (HM4.out.on m4.kept)
      have HT4 := Lib.hid m4.srcB
      clear m4 x0 x1 x2 x3 x4 x5
      go_upto_region 13 with (at_builtin; refine wpList_mineI rfl (.tmp 67) (.tmp 70) rfl w1 _ _ rfl HN4.out _ (ints (sideB no nl.length)) rfl HT4.out (by have := HLB.out; simp; omega) ?_; intro v5 w5 hm5; obtain ⟨a5, c5, e5⟩ := hm5.slice; obtain ⟨n5, hn5⟩ : ∃ n, v5 = Value.slice a5 n c5 := ⟨_, e5⟩; subst hn5; have HM5 := Lib.hid hm5; clear hm5 e5)
      obtain ⟨x0, x1, x2, x3, x4, x5⟩ := HistBox.c (h := ⟨sc, ze, po, pl, no, nl⟩) (HistBox.same HBq.out HM5.out.kept (fun x => x))
      dsimp only at x0 x1 x2 x3 x4 x5
      go_wp2_with fail
      refine (HAL.out _ (HAq.out.on HM5.out.kept)).mono ?_
      rintro e w6 ⟨a6, c6, rfl, m6⟩
      have HM6 := Lib.hid (HM5.out.on m6.kept)
      have HC6 := Lib.hid (m6.down HM5.out.kept)
      clear m6 x0 x1 x2 x3 x4 x5
      have HX6 : Hid (Mine w1 w6 3 (.slice a5 n5 c5) (ints (false :: shapeB ⟨sc, ze, po, pl, no, nl⟩))) := Lib.hid (by have h := HM6.out; rw [HSB.out]; simpa [ints_append, ints] using h)
      go_wp2
      go_loopg [10, 12] N (fun g s10 s12 wr => ∃ i : Nat, i ≤ N ∧ g = N - i ∧ s12 = .int .i64 i ∧ Mine w1 wr 3 s10 (ints (false :: shapeB ⟨sc, ze, po, pl, no, nl⟩ ++ (C.take i).flatMap smallB)) ∧ Mine w1 wr 28 (.slice a6 N c6) (uvals C))
      case atStart => exact ⟨0, Nat.zero_le _, rfl, rfl, by simpa using HX6.out, HC6.out⟩
      case round =>
        obtain ⟨i, hiN, rfl, rfl, hx, hc⟩ := hrel
        have HX := Lib.hid hx
        have HCr := Lib.hid hc
        obtain ⟨ax, cx, ex⟩ := hx.slice
        obtain ⟨nx, hnx⟩ : ∃ n, n = (ints (false :: shapeB ⟨sc, ze, po, pl, no, nl⟩ ++ (C.take i).flatMap smallB)).length := ⟨_, rfl⟩
        rw [← hnx] at ex
        subst ex
        have HNX := Lib.hid hnx
        clear hx hc hnx
        by_cases hd : i < N
        · have hdi : (i : Int) < (N : Int) := by omega
          have HD := Lib.hid hd
          have wi : IntKind.i64.wrap ((i : Int) + 1) = ((i + 1 : Nat) : Int) := by rw [IntWalk.i64_in _ ⟨by omega, by have := HNN.out; omega⟩]; omega
          obtain ⟨gq, off, ha3, hc3⟩ := HCr.out.at_.elem (uvals_get (l := C) (j := i) (by have := HCN.out; omega))
          cases ha3
          obtain ⟨x, hx⟩ : ∃ x, x = C.getD i 0 := ⟨_, rfl⟩
          rw [← hx] at hc3
          have HSM := Lib.hid (smallTo_any x (by rw [hx]; exact HLT.out i) wr)
          have HST := Lib.hid (smalls_take C i (by have := HCN.out; omega))
          rw [← hx] at HST
          have HLS := Lib.hid (show nx + (smallB x).length ≤ 1000000 by have h1 := HNX.out; have h2 := smallB_len x; have h3 := smalls_len (C.take i); have h4 := shapeB_len ⟨sc, ze, po, pl, no, nl⟩; have h5 := HNN.out; rw [ints_length, List.length_append, List.length_cons] at h1; rw [List.length_take] at h3; omega)
          clear hx hd
          go_wp2_with fail
          refine HSM.out.mono ?_
          rintro e w7 ⟨a7, c7, rfl, m7⟩
          have HX7 := Lib.hid (HX.out.on m7.kept)
          have HC7 := Lib.hid (HCr.out.on m7.kept)
          have HS7 := Lib.hid m7.srcB
          clear m7 hc3
          go_wp2_with (at_builtin; refine wpList_mineI2 rfl (.tmp 80) (.tmp 85) rfl w1 _ _ rfl HX7.out _ (ints (smallB x)) rfl HS7.out (by rw [← HNX.out, ints_length]; have := HLS.out; omega) ?_; intro v8 w8 hm8 hk8 _; have HX8 := Lib.hid hm8; have HC8 := Lib.hid (HC7.out.besideInt HX7.out hk8); clear hm8 hk8)
          go_roundg (N - (i + 1))
          case measure => have := HD.out; omega
          case rel => exact ⟨i + 1, HD.out, rfl, rfl, by rw [HST.out, ← List.append_assoc, ints_append]; exact HX8.out, HC8.out⟩
        · obtain rfl : N = i := by omega
          go_wp2
          go_ret
          rw [HE.out]
          have hx := HX.out
          rw [← HCN.out, List.take_length] at hx
          exact bitsTo_mine HKq.out hx
end Go.Proofs.YtjpnfadmblmjbaaDoor
