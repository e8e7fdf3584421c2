/- Layer 12: the document's Light; Clone (written by tools/gen_XI14.py). -/
import Derived.Test.YteflepcmblacaaaGreatDoorI10
namespace Go.Proofs.YteflepcmblacaaaGreatDoor
open Go.RowKit
attribute [local go_sem ↓] Go.wp_at_zero Go.wp_at_succ

/-- Is a point light? -/
def lightP (x : Pnt) : Bool := decide (x.name.size ≤ 100) && (lightL x.L && decide (x.h.pl.length ≤ 300 ∧ x.h.nl.length ≤ 300))
theorem lightP_of {x : Pnt} (h : lightP x = true) : x.light := by
  unfold lightP at h
  simp only [Bool.and_eq_true, decide_eq_true_eq] at h
  obtain ⟨h1, h2, h3, h4⟩ := h
  have h5 := lightL_true h2
  exact ⟨by omega, h5.1, h5.2.mono (by omega), by omega, by omega⟩
set_option maxRecDepth 100000 in
set_option maxHeartbeats 4000000 in
theorem refLight12_any (x : Pnt) (aa pa na : Option Addr) (ac pc nc : Nat) (w : World) (ha : PntAt w x aa ac (.slice pa x.h.pl.length pc) (.slice na x.h.nl.length nc)) (hL : x.L.length ≤ 9223372036854775807) :
    Calls Tryz.prog 6 #[pntV x (.slice aa x.L.length ac) (.slice pa x.h.pl.length pc) (.slice na x.h.nl.length nc)] w fun e w' => e = .returned (.bool (lightP x)) ∧ Kept (fun _ => False) w w' := by
  have HLL := Lib.hid (fun w' (k : Kept (fun _ => False) w w') => refLight11_any aa ac x.L w' (ha.ps.kept k) hL)
  have HHL := Lib.hid (fun w' (k : Kept (fun _ => False) w w') => refLight_any x.h (.slice pa x.h.pl.length pc) (.slice na x.h.nl.length nc) w' (ha.hist.on k))
  unfold lightP
  unfold pntV pntC
  unfold histV at HHL
  obtain ⟨name, L, kind, temp, mono, start, time, whole, re, im, ⟨sc, ze, po, pl, no, nl⟩, flags⟩ := x
  dsimp only at HLL HHL ⊢
  obtain ⟨BL, hBL⟩ : ∃ b, b = lightL L := ⟨_, rfl⟩
  obtain ⟨BH, hBH⟩ : ∃ b : Bool, b = decide (pl.length ≤ 300 ∧ nl.length ≤ 300) := ⟨_, rfl⟩
  rw [← hBL] at HLL ⊢
  rw [← hBH] at HHL ⊢
  obtain ⟨al, hal⟩ : ∃ m, m = L.length := ⟨_, rfl⟩
  obtain ⟨m, hm⟩ : ∃ m, m = pl.length := ⟨_, rfl⟩
  obtain ⟨n, hn⟩ : ∃ n, n = nl.length := ⟨_, rfl⟩
  rw [← hal] at HLL
  rw [← hm, ← hn] at HHL
  rw [← hm, ← hn, ← hal]
  obtain ⟨w1, hw1⟩ : ∃ w1, w1 = w.alloc (.cells #[.string name, .slice aa al ac, .int .i64 kind, .int .i64 temp, .bool mono, .int .i64 start, .int .i64 time, .int .i64 whole, .int .u64 re, .int .u64 im, .int .i64 sc, .int .u64 (ze : Int), .int .i64 po, .slice pa m pc, .int .i64 no, .slice na n nc, .int .i64 flags] 30) := ⟨_, rfl⟩
  have HK1 : Hid (Kept (fun _ => False) w w1) := Lib.hid (by rw [hw1]; exact (Kept.refl _ _).alloc _)
  obtain ⟨q, hq⟩ : ∃ q, q = w.heap.size := ⟨_, rfl⟩
  have hb : w1.heap[q]? = some (.cells #[.string name, .slice aa al ac, .int .i64 kind, .int .i64 temp, .bool mono, .int .i64 start, .int .i64 time, .int .i64 whole, .int .u64 re, .int .u64 im, .int .i64 sc, .int .u64 (ze : Int), .int .i64 po, .slice pa m pc, .int .i64 no, .slice na n nc, .int .i64 flags] 30 (0, 0)) := by rw [hw1, hq]; exact heap_alloc_new w _
  have HW1 := Lib.hid (And.intro hw1 hq)
  have HB := Lib.hid hb
  clear hBL hBH hal hm hn hw1 hq ha hL hb
  by_cases hz : name.size ≤ 100
  · have q1 : decide (name.size ≤ 100) = true := decide_eq_true hz
    have q1' : (name.size : Int) ≤ 100 := by omega
    rw [q1]
    clear hz
    go_enter Tryz.func6, Tryz.ntmps6
    go_wp2_with fail
    rw [← HW1.out.1, ← HW1.out.2]
    refine (HLL.out w1 HK1.out).mono ?_
    rintro e w2 ⟨rfl, rfl⟩
    cases BL with
    | false =>
      go_wp2
      go_ret
      exact ⟨rfl, HK1.out⟩
    | true =>
      have c10 := cell_rowZ 10 _ HB.out rfl
      have c11 := cell_rowZ 11 _ HB.out rfl
      have c12 := cell_rowZ 12 _ HB.out rfl
      have c13 := cell_rowZ 13 _ HB.out rfl
      have c14 := cell_rowZ 14 _ HB.out rfl
      have c15 := cell_rowZ 15 _ HB.out rfl
      go_wp2_with fail
      refine (HHL.out w1 HK1.out).mono ?_
      rintro e w3 ⟨rfl, k3⟩
      have HK3 := Lib.hid (HK1.out.trans k3)
      clear k3
      go_wp2
      go_ret
      exact ⟨by simp, HK3.out⟩
  · have q1 : decide (name.size ≤ 100) = false := decide_eq_false hz
    have q1' : ¬ (name.size : Int) ≤ 100 := by omega
    rw [q1]
    clear hz
    go_enter Tryz.func6, Tryz.ntmps6
    go_wp2
    rw [← HW1.out.1]
    go_ret
    exact ⟨rfl, HK1.out⟩
set_option maxRecDepth 100000 in
set_option maxHeartbeats 4000000 in
theorem pClone_any (x : Pnt) (aa pa na : Option Addr) (ac pc nc : Nat) (w : World) (ha : PntAt w x aa ac (.slice pa x.h.pl.length pc) (.slice na x.h.nl.length nc)) (hli : x.light) :
    Calls Tryz.prog 10 #[pntV x (.slice aa x.L.length ac) (.slice pa x.h.pl.length pc) (.slice na x.h.nl.length nc)] w fun e w' => ∃ a1 c1 a2 c2 a3 c3, e = .returned (pntV x (.slice a1 x.L.length c1) (.slice a2 x.h.pl.length c2) (.slice a3 x.h.nl.length c3)) ∧
      MineP w w' (.slice a1 x.L.length c1) x.L ∧ Mine w w' 23 (.slice a2 x.h.pl.length c2) (uvals x.h.pl) ∧ Mine w w' 23 (.slice a3 x.h.nl.length c3) (uvals x.h.nl) := by
  have HPC := Lib.hid (fun w' (k : Kept (fun _ => False) w w') => pclone_any aa ac x.L w' (ha.ps.kept k) (by have := hli.len; omega))
  have HHC := Lib.hid (fun w' (k : Kept (fun _ => False) w w') => hclone_any x.h (.slice pa x.h.pl.length pc) (.slice na x.h.nl.length nc) w' (ha.hist.on k) (by have := hli.pl; omega) (by have := hli.nl; omega))
  unfold pntV pntC
  unfold histV at HHC
  obtain ⟨name, L, kind, temp, mono, start, time, whole, re, im, ⟨sc, ze, po, pl, no, nl⟩, flags⟩ := x
  dsimp only at HPC HHC ⊢
  obtain ⟨al, hal⟩ : ∃ m, m = L.length := ⟨_, rfl⟩
  obtain ⟨m, hm⟩ : ∃ m, m = pl.length := ⟨_, rfl⟩
  obtain ⟨n, hn⟩ : ∃ n, n = nl.length := ⟨_, rfl⟩
  rw [← hal] at HPC
  rw [← hm, ← hn] at HHC
  rw [← hm, ← hn, ← hal]
  have HLN := Lib.hid (And.intro hal (And.intro hm hn))
  obtain ⟨q, hq⟩ : ∃ q, q = w.heap.size := ⟨_, rfl⟩
  obtain ⟨w2, hw2⟩ : ∃ w2, w2 = (w.alloc (.cells #[.string name, .slice aa al ac, .int .i64 kind, .int .i64 temp, .bool mono, .int .i64 start, .int .i64 time, .int .i64 whole, .int .u64 re, .int .u64 im, .int .i64 sc, .int .u64 (ze : Int), .int .i64 po, .slice pa m pc, .int .i64 no, .slice na n nc, .int .i64 flags] 30)).alloc (.cells #[.string { data := #[] }, .slice none 0 0, .int .i64 0, .int .i64 0, .bool false, .int .i64 0, .int .i64 0, .int .i64 0, .int .u64 0, .int .u64 0, .int .i64 0, .int .u64 0, .int .i64 0, .slice none 0 0, .int .i64 0, .slice none 0 0, .int .i64 0] 30) := ⟨_, rfl⟩
  have HK2 : Hid (Kept (fun _ => False) w w2) := Lib.hid (by rw [hw2]; exact ((Kept.refl _ _).alloc _).alloc _)
  have HB2 : Hid (w2.heap[q]? = some (.cells #[.string name, .slice aa al ac, .int .i64 kind, .int .i64 temp, .bool mono, .int .i64 start, .int .i64 time, .int .i64 whole, .int .u64 re, .int .u64 im, .int .i64 sc, .int .u64 (ze : Int), .int .i64 po, .slice pa m pc, .int .i64 no, .slice na n nc, .int .i64 flags] 30 (0, 0))) := Lib.hid (by rw [hw2, hq]; exact ((Kept.refl (fun _ => False) _).alloc _).same (heap_alloc_new w _) (fun x => x))
  have HR2 : Hid (w2.heap[q + 1]? = some (.cells #[.string { data := #[] }, .slice none 0 0, .int .i64 0, .int .i64 0, .bool false, .int .i64 0, .int .i64 0, .int .i64 0, .int .u64 0, .int .u64 0, .int .i64 0, .int .u64 0, .int .i64 0, .slice none 0 0, .int .i64 0, .slice none 0 0, .int .i64 0] 30 (0, 0))) := Lib.hid (by rw [hw2, hq]; exact box_second2 w _ _)
  have HW2 := Lib.hid (And.intro hw2 hq)
  have k1 := cell_rowZ 1 _ HB2.out rfl
  clear hal hm hn hq hw2 ha hli
  go_enter Tryz.func10, Tryz.ntmps10
  go_upto_region 1 with fail
  rw [← HW2.out.1, ← HW2.out.2]
  go_wp2_with fail
  refine (HPC.out w2 HK2.out).mono ?_
  rintro e w3 ⟨v1, rfl, m1⟩
  obtain ⟨a1, c1, rfl⟩ := m1.slice
  rw [← HLN.out.1] at m1 ⊢
  have b3 := m1.kept.same HB2.out (fun x => x)
  have r3 := m1.kept.same HR2.out (fun x => x)
  have yc1 := cell_rowZ 1 _ b3 rfl
  have yf1 := free_of_rowZ 1 b3
  have HM1 := Lib.hid m1
  have HB3 := Lib.hid (And.intro b3 r3)
  clear m1 b3 r3 k1
  go_upto_region 2 with fail
  obtain ⟨w4, hw4⟩ : ∃ w4, w4 = w3.setCell ⟨q, 1, none⟩ (.slice a1 al c1) := ⟨_, rfl⟩
  have b4 : w4.heap[q]? = some (.cells #[.string name, .slice a1 al c1, .int .i64 kind, .int .i64 temp, .bool mono, .int .i64 start, .int .i64 time, .int .i64 whole, .int .u64 re, .int .u64 im, .int .i64 sc, .int .u64 (ze : Int), .int .i64 po, .slice pa m pc, .int .i64 no, .slice na n nc, .int .i64 flags] 30 (0, 0)) := by rw [hw4]; exact heap_setCell_same _ _ 1 _ _ _ HB3.out.1
  have k34 : Kept (fun k => k = q) w3 w4 := by rw [hw4]; exact (Kept.refl (fun k => k = q) w3).setCell (p := ⟨q, 1, none⟩) (fun _ => rfl) _
  have HR4 := Lib.hid (k34.same HB3.out.2 (by omega))
  have HM1b := Lib.hid ((HM1.out.down HK2.out).keptS k34 (fun j e x => own_box HM1.out.own HB3.out.1 (by decide) (by rw [e, x])) (fun j e => by have := HW2.out.2; omega))
  rw [← hw4]
  have HB4 := Lib.hid b4
  clear hw4 k34 yc1 yf1
  have zc10 := cell_rowZ 10 _ b4 rfl
  have zc11 := cell_rowZ 11 _ b4 rfl
  have zc12 := cell_rowZ 12 _ b4 rfl
  have zc13 := cell_rowZ 13 _ b4 rfl
  have zc14 := cell_rowZ 14 _ b4 rfl
  have zc15 := cell_rowZ 15 _ b4 rfl
  clear b4
  go_wp2_with fail
  refine (HHC.out w4 HM1b.out.kept).mono ?_
  rintro e w5 ⟨v2, v3, rfl, m2, m3⟩
  obtain ⟨a2, c2, rfl⟩ := m2.slice
  obtain ⟨a3, c3, rfl⟩ := m3.slice
  rw [uvals_length, ← HLN.out.2.1] at m2
  rw [uvals_length, ← HLN.out.2.2] at m3
  rw [uvals_length, uvals_length, ← HLN.out.2.1, ← HLN.out.2.2]
  have HM2 := Lib.hid m2
  have HM3 := Lib.hid m3
  have b5 := m2.kept.same HB4.out (fun x => x)
  have HB5 := Lib.hid b5
  have HR5 := Lib.hid (m2.kept.same HR4.out (fun x => x))
  have HM1c := Lib.hid (HM1b.out.on m2.kept)
  clear m2 m3 zc10 zc11 zc12 zc13 zc14 zc15
  have uc10 := cell_rowZ 10 _ b5 rfl
  have uf10 := free_of_rowZ 10 b5
  have uc11 := cell_rowZ 11 _ b5 rfl
  have uf11 := free_of_rowZ 11 b5
  have uc12 := cell_rowZ 12 _ b5 rfl
  have uf12 := free_of_rowZ 12 b5
  have uc13 := cell_rowZ 13 _ b5 rfl
  have uf13 := free_of_rowZ 13 b5
  have uc14 := cell_rowZ 14 _ b5 rfl
  have uf14 := free_of_rowZ 14 b5
  have uc15 := cell_rowZ 15 _ b5 rfl
  have uf15 := free_of_rowZ 15 b5
  clear b5
  go_upto_region 3 with fail
  obtain ⟨w6, hw6⟩ : ∃ w6, w6 = ((((((w5.setCell ⟨q, 10, none⟩ (.int .i64 sc)).setCell ⟨q, 11, none⟩ (.int .u64 (ze : Int))).setCell ⟨q, 12, none⟩ (.int .i64 po)).setCell ⟨q, 13, none⟩ (.slice a2 m c2)).setCell ⟨q, 14, none⟩ (.int .i64 no)).setCell ⟨q, 15, none⟩ (.slice a3 n c3)) := ⟨_, rfl⟩
  have b6 : w6.heap[q]? = some (.cells #[.string name, .slice a1 al c1, .int .i64 kind, .int .i64 temp, .bool mono, .int .i64 start, .int .i64 time, .int .i64 whole, .int .u64 re, .int .u64 im, .int .i64 sc, .int .u64 (ze : Int), .int .i64 po, .slice a2 m c2, .int .i64 no, .slice a3 n c3, .int .i64 flags] 30 (0, 0)) := by rw [hw6]; exact (heap_setCell_same _ _ 15 _ _ (.slice a3 n c3) (heap_setCell_same _ _ 14 _ _ (.int .i64 no) (heap_setCell_same _ _ 13 _ _ (.slice a2 m c2) (heap_setCell_same _ _ 12 _ _ (.int .i64 po) (heap_setCell_same _ _ 11 _ _ (.int .u64 (ze : Int)) (heap_setCell_same _ _ 10 _ _ (.int .i64 sc) HB5.out))))))
  have k56 : Kept (fun k => k = q) w5 w6 := by rw [hw6]; exact (((((((Kept.refl (fun k => k = q) w5).setCell (p := ⟨q, 10, none⟩) (fun _ => rfl) (.int .i64 sc)).setCell (p := ⟨q, 11, none⟩) (fun _ => rfl) (.int .u64 (ze : Int))).setCell (p := ⟨q, 12, none⟩) (fun _ => rfl) (.int .i64 po)).setCell (p := ⟨q, 13, none⟩) (fun _ => rfl) (.slice a2 m c2)).setCell (p := ⟨q, 14, none⟩) (fun _ => rfl) (.int .i64 no)).setCell (p := ⟨q, 15, none⟩) (fun _ => rfl) (.slice a3 n c3))
  rw [← hw6]
  have HB6 := Lib.hid b6
  have HR6 := Lib.hid (k56.same HR5.out (by omega))
  have hqw : w.heap.size ≤ q ∧ q < w2.heap.size := ⟨by have := HW2.out.2; omega, (Array.getElem?_eq_some_iff.1 HB2.out).1⟩
  have hq4 : ∀ {v : Value} {xs : List Value} {s n : Nat} {B : Nat} {E : TypeId}, w5.ownsRow B E s v n xs → E ≠ 30 → ∀ j, v.ownBlock = some j → ¬ j = q := fun h hE j e x => own_box h HB5.out hE (by rw [e, x])
  have k9 := setRow_keptW w6 (q + 1) #[.string name, .slice a1 al c1, .int .i64 kind, .int .i64 temp, .bool mono, .int .i64 start, .int .i64 time, .int .i64 whole, .int .u64 re, .int .u64 im, .int .i64 sc, .int .u64 (ze : Int), .int .i64 po, .slice a2 m c2, .int .i64 no, .slice a3 n c3, .int .i64 flags]
  have k69 : Kept (fun k => k = q ∨ k = q + 1) w5 (w6.setRow (q + 1) #[.string name, .slice a1 al c1, .int .i64 kind, .int .i64 temp, .bool mono, .int .i64 start, .int .i64 time, .int .i64 whole, .int .u64 re, .int .u64 im, .int .i64 sc, .int .u64 (ze : Int), .int .i64 po, .slice a2 m c2, .int .i64 no, .slice a3 n c3, .int .i64 flags]) := (k56.mono (fun _ _ e => .inl e)).trans (k9.mono (fun _ _ e => .inr e))
  have hn1 : ∀ {v : Value} {xs : List Value} {s n : Nat} {B : Nat} {E : TypeId}, w5.ownsRow B E s v n xs → E ≠ 30 → ∀ j, v.ownBlock = some j → ¬ (j = q ∨ j = q + 1) := fun h hE j e x => x.elim (fun x => own_box h HB5.out hE (by rw [e, x])) (fun x => own_box h HR5.out hE (by rw [e, x]))
  have HKF : Hid (Kept (fun _ => False) w (w6.setRow (q + 1) #[.string name, .slice a1 al c1, .int .i64 kind, .int .i64 temp, .bool mono, .int .i64 start, .int .i64 time, .int .i64 whole, .int .u64 re, .int .u64 im, .int .i64 sc, .int .u64 (ze : Int), .int .i64 po, .slice a2 m c2, .int .i64 no, .slice a3 n c3, .int .i64 flags])) := Lib.hid (HM1c.out.kept.newer k69 (fun j e => by rcases e with e | e <;> omega))
  have HO1 : Hid (MineP w (w6.setRow (q + 1) #[.string name, .slice a1 al c1, .int .i64 kind, .int .i64 temp, .bool mono, .int .i64 start, .int .i64 time, .int .i64 whole, .int .u64 re, .int .u64 im, .int .i64 sc, .int .u64 (ze : Int), .int .i64 po, .slice a2 m c2, .int .i64 no, .slice a3 n c3, .int .i64 flags]) (.slice a1 al c1) L) := Lib.hid ⟨k69.owns HM1c.out.own (hn1 HM1c.out.own (by decide)), HKF.out⟩
  have HO2 : Hid (Mine w (w6.setRow (q + 1) #[.string name, .slice a1 al c1, .int .i64 kind, .int .i64 temp, .bool mono, .int .i64 start, .int .i64 time, .int .i64 whole, .int .u64 re, .int .u64 im, .int .i64 sc, .int .u64 (ze : Int), .int .i64 po, .slice a2 m c2, .int .i64 no, .slice a3 n c3, .int .i64 flags]) 23 (.slice a2 m c2) (uvals pl)) := Lib.hid ⟨wown_base (k69.owns HM2.out.own (hn1 HM2.out.own (by decide))) HM1b.out.kept.size, HKF.out⟩
  have HO3 : Hid (Mine w (w6.setRow (q + 1) #[.string name, .slice a1 al c1, .int .i64 kind, .int .i64 temp, .bool mono, .int .i64 start, .int .i64 time, .int .i64 whole, .int .u64 re, .int .u64 im, .int .i64 sc, .int .u64 (ze : Int), .int .i64 po, .slice a2 m c2, .int .i64 no, .slice a3 n c3, .int .i64 flags]) 23 (.slice a3 n c3) (uvals nl)) := Lib.hid ⟨wown_base (k69.owns HM3.out.own (hn1 HM3.out.own (by decide))) HM1b.out.kept.size, HKF.out⟩
  have HF : Hid ((w6.setRow (q + 1) #[.string name, .slice a1 al c1, .int .i64 kind, .int .i64 temp, .bool mono, .int .i64 start, .int .i64 time, .int .i64 whole, .int .u64 re, .int .u64 im, .int .i64 sc, .int .u64 (ze : Int), .int .i64 po, .slice a2 m c2, .int .i64 no, .slice a3 n c3, .int .i64 flags]).heap[q + 1]? = some (.cells #[.string name, .slice a1 al c1, .int .i64 kind, .int .i64 temp, .bool mono, .int .i64 start, .int .i64 time, .int .i64 whole, .int .u64 re, .int .u64 im, .int .i64 sc, .int .u64 (ze : Int), .int .i64 po, .slice a2 m c2, .int .i64 no, .slice a3 n c3, .int .i64 flags] 30 (0, 0))) := Lib.hid (setRow_heap _ _ _ _ _ _ HR6.out)
  clear hw6 b6 k56 hqw hq4 k9 k69 hn1 uc10 uf10 uc11 uf11 uc12 uf12 uc13 uf13 uc14 uf14 uc15 uf15
  go_wp2_with (first
    | (refine wpList_load_row rfl 30 (.tmp 1) rfl q rfl 30 _ (0, 0) _ HB6.out Tryz.underlying30 rfl point_info ?_)
    | (refine wpList_store_row rfl 30 (.tmp 2) (.tmp 11) rfl (q + 1) #[.string name, .slice a1 al c1, .int .i64 kind, .int .i64 temp, .bool mono, .int .i64 start, .int .i64 time, .int .i64 whole, .int .u64 re, .int .u64 im, .int .i64 sc, .int .u64 (ze : Int), .int .i64 po, .slice a2 m c2, .int .i64 no, .slice a3 n c3, .int .i64 flags] rfl rfl 30 _ HR6.out point_info rfl (ptAll _ _ _ _ _ _ _ _ _ _ _ _ _ _ _ _ _ _ _ _ _ _ _) ?_)
    | fail)
  exact bodyPost_ret (results_cell_row Tryz.results10 _ _ (q + 1) 30 _ (0, 0) _ rfl HF.out Tryz.underlying30 rfl point_info) rfl ⟨_, _, _, _, _, _, rfl, HO1.out, HO2.out, HO3.out⟩
end Go.Proofs.YteflepcmblacaaaGreatDoor
