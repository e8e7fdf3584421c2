/- Layer 12: a point's own value; the comparison of values (written by tools/gen_XI4.py). -/
import Derived.Test.YteflepcmblacaaaGreatDoorI1
namespace Go.Proofs.YteflepcmblacaaaGreatDoor
open Go.RowKit
attribute [local go_sem ↓] Go.wp_at_zero Go.wp_at_succ

/-- Of a point's value that which its kind has. -/
def ownC (x : Pnt) : List Value :=
  if x.kind = 1 then [.int .i64 x.whole, .int .u64 0, .int .u64 0, .int .i64 0, .int .u64 0, .int .i64 0, .int .i64 0, .int .i64 0, .int .i64 0] else if x.kind = 2 ∨ x.kind = 3 then [.int .i64 0, .int .u64 x.re, .int .u64 0, .int .i64 0, .int .u64 0, .int .i64 0, .int .i64 0, .int .i64 0, .int .i64 0] else if x.kind = 5 then [.int .i64 0, .int .u64 x.re, .int .u64 x.im, .int .i64 0, .int .u64 0, .int .i64 0, .int .i64 0, .int .i64 0, .int .i64 0]
  else if x.kind = 4 then [.int .i64 0, .int .u64 0, .int .u64 0, .int .i64 x.h.sc, .int .u64 (x.h.ze : Int), .int .i64 x.h.po, .int .i64 x.h.no, .int .i64 (x.h.pl.length : Nat), .int .i64 (x.h.nl.length : Nat)] else [.int .i64 0, .int .u64 0, .int .u64 0, .int .i64 0, .int .u64 0, .int .i64 0, .int .i64 0, .int .i64 0, .int .i64 0]
theorem cell_rowZ {w : World} {g : Nat} {cs : Array Value} {T : TypeId} (i : Nat) (v : Value) (h : w.heap[g]? = some (.cells cs T (0, 0))) (e : cs[i]? = some v) : w.cell? ⟨g, i, none⟩ = some v := (cell_of_row w g i _ _ _ h).trans e
theorem free_of_rowZ {w : World} {g : Nat} {cs : Array Value} {T : TypeId} (i : Nat) (h : w.heap[g]? = some (.cells cs T (0, 0))) : w.frozen? ⟨g, i, none⟩ = false := by
  simp [World.frozen?, h]
set_option maxRecDepth 100000 in
set_option maxHeartbeats 4000000 in
theorem ownOf_any (x : Pnt) (av : Value) (pa na : Option Addr) (pc nc : Nat) (w : World) :
    Calls Tryz.prog 30 #[pntV x av (.slice pa x.h.pl.length pc) (.slice na x.h.nl.length nc)] w fun e w' => e = .returned (.agg (ownC x).toArray) ∧ Kept (fun _ => False) w w' := by
  have HVO := Lib.hid (fun w' => valueOf_any x av pa na pc nc w')
  obtain ⟨C, hC⟩ : ∃ C, C = ownC x := ⟨_, rfl⟩
  rw [← hC]
  unfold ownC at hC
  unfold pntV pntC valC at HVO
  unfold pntV pntC
  obtain ⟨name, L, kind, temp, mono, start, time, whole, re, im, ⟨sc, ze, po, pl, no, nl⟩, flags⟩ := x
  dsimp only at hC HVO ⊢
  obtain ⟨m, hm⟩ : ∃ m, m = pl.length := ⟨_, rfl⟩
  obtain ⟨n, hn⟩ : ∃ n, n = nl.length := ⟨_, rfl⟩
  rw [← hm, ← hn] at hC HVO ⊢
  clear hm hn
  obtain ⟨w3, hw3⟩ : ∃ w3, w3 = ((w.alloc (.cells #[.string name, av, .int .i64 kind, .int .i64 temp, .bool mono, .int .i64 start, .int .i64 time, .int .i64 whole, .int .u64 re, .int .u64 im, .int .i64 sc, .int .u64 (ze : Int), .int .i64 po, .slice pa m pc, .int .i64 no, .slice na n nc, .int .i64 flags] 30)).alloc (.cells #[.int .i64 0, .int .u64 0, .int .u64 0, .int .i64 0, .int .u64 0, .int .i64 0, .int .i64 0, .int .i64 0, .int .i64 0] 62)).alloc (.cells #[.int .i64 0, .int .u64 0, .int .u64 0, .int .i64 0, .int .u64 0, .int .i64 0, .int .i64 0, .int .i64 0, .int .i64 0] 62) := ⟨_, rfl⟩
  have HK : Hid (Kept (fun _ => False) w w3) := Lib.hid (by rw [hw3]; exact (((Kept.refl _ _).alloc _).alloc _).alloc _)
  have HW := Lib.hid hw3
  rcases kind_cases kind with e | e | e | e | e | ⟨n1, n2, n3, n4, n5⟩
  · subst e
    rw [if_neg (by decide), if_pos (by decide)] at hC
    subst hC
    go_enter Tryz.func30, Tryz.ntmps30
    go_wp2
    exact bodyPost_ret (results_cell_row Tryz.results30 _ _ (w.heap.size + 1) 62 _ (0, 0) _ rfl (box_second w _ _ _) Tryz.underlying62 rfl val_info) rfl ⟨rfl, (((Kept.refl _ _).alloc _).alloc _).alloc _⟩
  · subst e
    rw [if_pos (by decide)] at hC
    subst hC
    go_enter Tryz.func30, Tryz.ntmps30
    go_wp2
    exact bodyPost_ret (results_cell_row Tryz.results30 _ _ (w.heap.size + 1) 62 _ (0, 0) _ rfl (box_second w _ _ _) Tryz.underlying62 rfl val_info) rfl ⟨rfl, (((Kept.refl _ _).alloc _).alloc _).alloc _⟩
  · subst e
    rw [if_neg (by decide), if_pos (by decide)] at hC
    subst hC
    go_enter Tryz.func30, Tryz.ntmps30
    go_wp2
    exact bodyPost_ret (results_cell_row Tryz.results30 _ _ (w.heap.size + 1) 62 _ (0, 0) _ rfl (box_second w _ _ _) Tryz.underlying62 rfl val_info) rfl ⟨rfl, (((Kept.refl _ _).alloc _).alloc _).alloc _⟩
  · subst e
    rw [if_neg (by decide), if_neg (by decide), if_neg (by decide), if_pos (by decide)] at hC
    subst hC
    obtain ⟨q, hq⟩ : ∃ q, q = w.heap.size := ⟨_, rfl⟩
    have HB1 : Hid (w3.heap[q + 1]? = some (.cells #[.int .i64 0, .int .u64 0, .int .u64 0, .int .i64 0, .int .u64 0, .int .i64 0, .int .i64 0, .int .i64 0, .int .i64 0] 62 (0, 0))) := Lib.hid (by rw [hw3, hq]; exact box_second w _ _ _)
    have HB2 : Hid (w3.heap[q + 1 + 1]? = some (.cells #[.int .i64 0, .int .u64 0, .int .u64 0, .int .i64 0, .int .u64 0, .int .i64 0, .int .i64 0, .int .i64 0, .int .i64 0] 62 (0, 0))) := Lib.hid (by
      rw [hw3, hq]
      have h := heap_alloc_new ((w.alloc (.cells #[.string name, av, .int .i64 4, .int .i64 temp, .bool mono, .int .i64 start, .int .i64 time, .int .i64 whole, .int .u64 re, .int .u64 im, .int .i64 sc, .int .u64 (ze : Int), .int .i64 po, .slice pa m pc, .int .i64 no, .slice na n nc, .int .i64 flags] 30)).alloc (.cells #[.int .i64 0, .int .u64 0, .int .u64 0, .int .i64 0, .int .u64 0, .int .i64 0, .int .i64 0, .int .i64 0, .int .i64 0] 62)) (.cells #[.int .i64 0, .int .u64 0, .int .u64 0, .int .i64 0, .int .u64 0, .int .i64 0, .int .i64 0, .int .i64 0, .int .i64 0] 62)
      simpa using h)
    have HQ := Lib.hid hq
    clear hw3 hq
    go_enter Tryz.func30, Tryz.ntmps30
    go_wp2_with fail
    rw [← HW.out, ← HQ.out]
    refine (HVO.out w3).mono ?_
    rintro e w4 ⟨rfl, k4⟩
    have b1 := k4.same HB1.out (fun x => x)
    have b2 := k4.same HB2.out (fun x => x)
    have HB1b := Lib.hid b1
    have HB2b := Lib.hid b2
    have HK4 := Lib.hid (HK.out.trans k4)
    have xc0 := cell_rowZ 0 _ b2 rfl
    have xf0 := free_of_rowZ 0 b2
    have xc1 := cell_rowZ 1 _ b2 rfl
    have xf1 := free_of_rowZ 1 b2
    have xc2 := cell_rowZ 2 _ b2 rfl
    have xf2 := free_of_rowZ 2 b2
    have xc3 := cell_rowZ 3 _ b2 rfl
    have xf3 := free_of_rowZ 3 b2
    have xc4 := cell_rowZ 4 _ b2 rfl
    have xf4 := free_of_rowZ 4 b2
    have xc5 := cell_rowZ 5 _ b2 rfl
    have xf5 := free_of_rowZ 5 b2
    have xc6 := cell_rowZ 6 _ b2 rfl
    have xf6 := free_of_rowZ 6 b2
    have xc7 := cell_rowZ 7 _ b2 rfl
    have xf7 := free_of_rowZ 7 b2
    have xc8 := cell_rowZ 8 _ b2 rfl
    have xf8 := free_of_rowZ 8 b2
    clear b1 b2 k4
    go_upto_region 12 with fail
    obtain ⟨w5, hw5⟩ : ∃ w5, w5 = setRow w4 (q + 1 + 1) 0 [.int .i64 whole, .int .u64 re, .int .u64 im, .int .i64 sc, .int .u64 (ze : Int), .int .i64 po, .int .i64 no, .int .i64 (m : Int), .int .i64 (n : Int)] := ⟨_, rfl⟩
    have b5 : w5.heap[q + 1 + 1]? = some (.cells #[.int .i64 whole, .int .u64 re, .int .u64 im, .int .i64 sc, .int .u64 (ze : Int), .int .i64 po, .int .i64 no, .int .i64 (m : Int), .int .i64 (n : Int)] 62 (0, 0)) := by rw [hw5]; exact setRow_box _ 0 w4 _ HB2b.out rfl
    have k5 : Kept (fun k => k = q + 1 + 1) w4 w5 := by rw [hw5]; exact setRow_kept _ 0 w4
    simp only [setRow, Nat.zero_add, Nat.reduceAdd] at hw5
    rw [← hw5]
    clear hw5 xc0 xf0 xc1 xf1 xc2 xf2 xc3 xf3 xc4 xf4 xc5 xf5 xc6 xf6 xc7 xf7 xc8 xf8
    have yc0 := cell_rowZ 0 _ b5 rfl
    have yf0 := free_of_rowZ 0 b5
    have yc1 := cell_rowZ 1 _ b5 rfl
    have yf1 := free_of_rowZ 1 b5
    have yc2 := cell_rowZ 2 _ b5 rfl
    have yf2 := free_of_rowZ 2 b5
    have HB5 := Lib.hid b5
    have HK5 := Lib.hid k5
    clear b5 k5
    go_upto_region 13 with fail
    obtain ⟨w6, hw6⟩ : ∃ w6, w6 = ((w5.setCell ⟨q + 1 + 1, 0, none⟩ (.int .i64 0)).setCell ⟨q + 1 + 1, 1, none⟩ (.int .u64 0)).setCell ⟨q + 1 + 1, 2, none⟩ (.int .u64 0) := ⟨_, rfl⟩
    have b6 : w6.heap[q + 1 + 1]? = some (.cells #[.int .i64 0, .int .u64 0, .int .u64 0, .int .i64 sc, .int .u64 (ze : Int), .int .i64 po, .int .i64 no, .int .i64 (m : Int), .int .i64 (n : Int)] 62 (0, 0)) := by
      rw [hw6]
      exact heap_setCell_same _ _ 2 _ _ (.int .u64 0) (heap_setCell_same _ _ 1 _ _ (.int .u64 0) (heap_setCell_same _ _ 0 _ _ (.int .i64 0) HB5.out))
    have k6 : Kept (fun k => k = q + 1 + 1) w5 w6 := by
      rw [hw6]
      exact (((Kept.refl (fun k => k = q + 1 + 1) w5).setCell (p := ⟨q + 1 + 1, 0, none⟩) (fun _ => rfl) _).setCell (p := ⟨q + 1 + 1, 1, none⟩) (fun _ => rfl) _).setCell (p := ⟨q + 1 + 1, 2, none⟩) (fun _ => rfl) _
    rw [← hw6]
    have r6 := k6.same (HK5.out.same HB1b.out (by omega)) (by omega)
    have HR6 := Lib.hid r6
    have HK6 := Lib.hid (HK4.out.newer (HK5.out.trans k6) (fun j e => by have := HQ.out; omega))
    clear hw6 k6 yc0 yf0 yc1 yf1 yc2 yf2
    have zc0 := cell_rowZ 0 _ b6 rfl
    have zf0 := free_of_rowZ 0 b6
    have zc1 := cell_rowZ 1 _ b6 rfl
    have zf1 := free_of_rowZ 1 b6
    have zc2 := cell_rowZ 2 _ b6 rfl
    have zf2 := free_of_rowZ 2 b6
    have zc3 := cell_rowZ 3 _ b6 rfl
    have zf3 := free_of_rowZ 3 b6
    have zc4 := cell_rowZ 4 _ b6 rfl
    have zf4 := free_of_rowZ 4 b6
    have zc5 := cell_rowZ 5 _ b6 rfl
    have zf5 := free_of_rowZ 5 b6
    have zc6 := cell_rowZ 6 _ b6 rfl
    have zf6 := free_of_rowZ 6 b6
    have zc7 := cell_rowZ 7 _ b6 rfl
    have zf7 := free_of_rowZ 7 b6
    have zc8 := cell_rowZ 8 _ b6 rfl
    have zf8 := free_of_rowZ 8 b6
    have rc0 := cell_rowZ 0 _ r6 rfl
    have rf0 := free_of_rowZ 0 r6
    have rc1 := cell_rowZ 1 _ r6 rfl
    have rf1 := free_of_rowZ 1 r6
    have rc2 := cell_rowZ 2 _ r6 rfl
    have rf2 := free_of_rowZ 2 r6
    have rc3 := cell_rowZ 3 _ r6 rfl
    have rf3 := free_of_rowZ 3 r6
    have rc4 := cell_rowZ 4 _ r6 rfl
    have rf4 := free_of_rowZ 4 r6
    have rc5 := cell_rowZ 5 _ r6 rfl
    have rf5 := free_of_rowZ 5 r6
    have rc6 := cell_rowZ 6 _ r6 rfl
    have rf6 := free_of_rowZ 6 r6
    have rc7 := cell_rowZ 7 _ r6 rfl
    have rf7 := free_of_rowZ 7 r6
    have rc8 := cell_rowZ 8 _ r6 rfl
    have rf8 := free_of_rowZ 8 r6
    clear b6 r6
    go_wp2
    obtain ⟨w7, hw7⟩ : ∃ w7, w7 = setRow w6 (q + 1) 0 [.int .i64 0, .int .u64 0, .int .u64 0, .int .i64 sc, .int .u64 (ze : Int), .int .i64 po, .int .i64 no, .int .i64 (m : Int), .int .i64 (n : Int)] := ⟨_, rfl⟩
    have b7 : w7.heap[q + 1]? = some (.cells #[.int .i64 0, .int .u64 0, .int .u64 0, .int .i64 sc, .int .u64 (ze : Int), .int .i64 po, .int .i64 no, .int .i64 (m : Int), .int .i64 (n : Int)] 62 (0, 0)) := by rw [hw7]; exact setRow_box _ 0 w6 _ HR6.out rfl
    have k7 : Kept (fun _ => False) w w7 := by rw [hw7]; exact setRow_new HK6.out (by have := HQ.out; omega) _
    simp only [setRow, Nat.zero_add, Nat.reduceAdd] at hw7
    rw [← hw7]
    exact bodyPost_ret (results_cell_row Tryz.results30 _ _ (q + 1) 62 _ (0, 0) _ rfl b7 Tryz.underlying62 rfl val_info) rfl ⟨rfl, k7⟩
  · subst e
    rw [if_neg (by decide), if_neg (by decide), if_pos (by decide)] at hC
    subst hC
    go_enter Tryz.func30, Tryz.ntmps30
    go_wp2
    go_region
    go_wp2
    exact bodyPost_ret (results_cell_row Tryz.results30 _ _ (w.heap.size + 1) 62 _ (0, 0) _ rfl (box_second w _ _ _) Tryz.underlying62 rfl val_info) rfl ⟨rfl, ((((Kept.refl _ _).alloc _).alloc _).alloc _).drew⟩
  · have q1 : (kind == 1) = false := beqF n1
    have q2 : (kind == 2) = false := beqF n2
    have q3 : (kind == 3) = false := beqF n3
    have q4 : (kind == 4) = false := beqF n4
    have q5 : (kind == 5) = false := beqF n5
    rw [if_neg n1, if_neg (by omega), if_neg n5, if_neg n4] at hC
    subst hC
    clear n1 n2 n3 n4 n5
    go_enter Tryz.func30, Tryz.ntmps30
    go_wp2
    exact bodyPost_ret (results_cell_row Tryz.results30 _ _ (w.heap.size + 1) 62 _ (0, 0) _ rfl (box_second w _ _ _) Tryz.underlying62 rfl val_info) rfl ⟨rfl, (((Kept.refl _ _).alloc _).alloc _).alloc _⟩
end Go.Proofs.YteflepcmblacaaaGreatDoor
