/- package hist: width, downSide. -/
import Derived.Test.YtbjpcddnjndjlaaH5
import Derived.Test.YtbjpcddnjndjlaaH6
import Derived.Laws.OwnMore
namespace Go.Proofs.Ytbjpcddnjndjlaa
open Go.RowKit
attribute [local go_sem ↓] Go.wp_at_zero Go.wp_at_succ

theorem ediv_bound (x : Int) (b : Nat) (M : Int) (h0 : -M ≤ x) (h1 : x ≤ M) (hM : 0 ≤ M) : -M ≤ x / 2 ^ b ∧ x / 2 ^ b ≤ M := by
  have hp := pow2_pos b
  constructor
  · have h2 : -M * 2 ^ b ≤ x := by
      have : M * 1 ≤ M * 2 ^ b := Int.mul_le_mul_of_nonneg_left (by omega) hM
      rw [Int.neg_mul]; omega
    rw [← Int.mul_ediv_cancel (-M) (show (2 : Int) ^ b ≠ 0 by omega)]
    exact Int.ediv_le_ediv hp h2
  · have h2 : x ≤ M * 2 ^ b := by
      have : M * 1 ≤ M * 2 ^ b := Int.mul_le_mul_of_nonneg_left (by omega) hM
      omega
    rw [← Int.mul_ediv_cancel M (show (2 : Int) ^ b ≠ 0 by omega)]
    exact Int.ediv_le_ediv hp h2

set_option maxHeartbeats 1000000 in
theorem histWidth_any (o : Int) (l : List Nat) (b : Nat) (v : Value) (w : World) (hv : SlAt w v (uvals l)) (ho : -1000000000000 ≤ o ∧ o ≤ 1000000000000) (hl : l.length ≤ 1000000) (hb : b ≤ 60) :
    Calls Try.prog 44 #[.agg #[.int .i64 o, v], .int .i64 b] w fun e w' => e = .returned (.int .i64 ((dWidth o l.length b : Nat) : Int)) ∧ Kept (fun _ => False) w w' := by
  obtain ⟨h0, h1⟩ := ho
  obtain ⟨ao, c, hval, _, _⟩ := hv.val
  rw [uvals_length] at hval
  subst hval
  by_cases hz : l.length = 0
  · have e : dWidth o l.length b = 0 := by unfold dWidth; rw [if_pos hz]
    have q : ((l.length : Int) == 0) = true := beqT (by omega)
    rw [e]
    clear hv hz e
    go_enter Try.func44, Try.ntmps44
    go_wp2
    go_ret
    exact ⟨rfl, (Kept.refl _ _).alloc _⟩
  · have q : ((l.length : Int) == 0) = false := beqF (by omega)
    obtain ⟨N, hN⟩ : ∃ N, N = l.length - 1 := ⟨_, rfl⟩
    have hd := dIdx_eq o b N
    have hw : dWidth o l.length b = dIdx o b N + 1 := by unfold dWidth; rw [if_neg hz, hN]
    have b1 := ediv_bound (o + (N : Int)) b 2000000000000 (by omega) (by omega) (by omega)
    have b2 := ediv_bound o b 2000000000000 (by omega) (by omega) (by omega)
    obtain ⟨A, hA⟩ : ∃ A, A = (o + (N : Int)) / 2 ^ b := ⟨_, rfl⟩
    obtain ⟨B, hB⟩ : ∃ B, B = o / 2 ^ b := ⟨_, rfl⟩
    rw [← hA] at hd b1
    rw [← hB] at hd b2
    obtain ⟨W, hW⟩ : ∃ W, W = dWidth o l.length b := ⟨_, rfl⟩
    have s1 : IntKind.i64.wrap (o + (l.length : Int)) = o + (l.length : Int) := IntWalk.i64_in _ ⟨by omega, by omega⟩
    have s2 : IntKind.i64.wrap (o + (l.length : Int) - 1) = o + (N : Int) := by rw [IntWalk.i64_in _ ⟨by omega, by omega⟩]; omega
    have s2' : o + (l.length : Int) - 1 = o + (N : Int) := by omega
    have s3 : (o + (N : Int)) / 2 ^ b = A := hA.symm
    have s4 : o / 2 ^ b = B := hB.symm
    have s5 : IntKind.i64.wrap (A - B) = A - B := IntWalk.i64_in _ ⟨by omega, by omega⟩
    have s6 : IntKind.i64.wrap (A - B + 1) = (W : Int) := by rw [IntWalk.i64_in _ ⟨by omega, by omega⟩]; omega
    have s6' : A - B + 1 = (W : Int) := by omega
    have bb0 : (0 : Int) ≤ (b : Int) := by omega
    have mb : min b 64 = b := by omega
    rw [← hW]
    clear hv hz hN hd hw hA hB hW
    go_enter Try.func44, Try.ntmps44
    go_wp2
    go_quiet (fail)
    go_wp2
    go_ret
    exact ⟨rfl, ((Kept.refl _ _).alloc _).drewN _⟩

theorem owns_set {w : World} {base : Nat} {E : TypeId} {g n cap : Nat} {xs : List Value} (h : w.ownsRow base E 1 (.slice (some ⟨g, 0, none⟩) n cap) n xs) (j : Nat) (u : Value) :
    (w.setCell ⟨g, j, none⟩ u).ownsRow base E 1 (.slice (some ⟨g, 0, none⟩) n cap) n (xs.set j u) := by
  refine ⟨by simpa using h.1, ?_⟩
  rcases h.2 with ⟨e, _⟩ | ⟨g', cap', cur, e, hb, hg, hn, hm, hs, ht⟩
  · cases e
  · injection e with e1 e2 e3
    injection e1 with e1
    injection e1 with e1
    subst e1
    subst e3
    refine .inr ⟨g, cap, cur.setIfInBounds j u, rfl, hb, ?_, hn, hm, by simpa using hs, ?_⟩
    · simp [World.setCell, Array.getElem?_modify, hg]
    · rw [← ht]
      simp [List.take_set]
theorem run_make1 {P : Program} {t e : TypeId} {i : TypeInfo} {z : Value} (ht : P.underlying t = some (.slice e)) (hi : P.info? e = some i) (hz : i.zero = some z) (hs : i.size = 1) (hzc : z.cells = #[z]) (hb : i.bytes ≤ 64) (n : Nat) (hn : n ≤ 1000000) (w : World) :
    (Instr.makeSlice t (.int .i64 (n : Int)) (.int .i64 (n : Int))).run P w = .ok (.slice (some ⟨w.heap.size, 0, none⟩) n n) (w.alloc (.cells (Array.replicate n z) e)) := by
  have hbn : (i.bytes : Int) * (n : Int) ≤ 64 * 1000000 := by
    have : i.bytes * n ≤ 64 * 1000000 := Nat.mul_le_mul hb hn
    have h2 : ((i.bytes * n : Nat) : Int) ≤ 64 * 1000000 := by omega
    rwa [Int.natCast_mul] at h2
  have hr := run_makeSlice (P := P) w t e i z ht hi hz .i64 .i64 (n : Int) (n : Int) (by omega) (Int.le_refl _) (by rw [hs]; omega) (by omega) (by omega)
  rw [hr]
  simp only [Int.toNat_natCast]
  have e : madeCells z.cells (n * i.size) = Array.replicate n z := by
    rw [hs, Nat.mul_one, hzc]
    apply Array.toList_inj.1
    rw [toList_madeCells_one]; simp
  rw [e]
theorem mine_made {W w : World} (hk : Kept (fun _ => False) W w) (n : Nat) (z : Value) (E : TypeId) (hn : n ≤ maxLen) : Mine W (w.alloc (.cells (Array.replicate n z) E)) E (.slice (some ⟨w.heap.size, 0, none⟩) n n) (List.replicate n z) := by
  refine ⟨⟨by simp, .inr ⟨w.heap.size, n, _, by simp, hk.size, heap_alloc_new w _, by simp, hn, by simp, ?_⟩⟩, hk.alloc _⟩
  simp
theorem uvals_set (l : List Nat) (j x : Nat) : (uvals l).set j (.int .u64 (x : Int)) = uvals (l.set j x) := by unfold uvals; rw [List.map_set]
theorem uvals_replicate (n : Nat) : uvals (List.replicate n 0) = List.replicate n (.int .u64 0) := by unfold uvals; rw [List.map_replicate]; rfl

theorem made1 {w w3 : World} (hk : Kept (fun _ => False) w w3) (W : Nat) (O : Int) (hW : W ≤ maxLen) :
    SideBox (((w3.alloc (.cells (Array.replicate W (.int .u64 0)) 22)).alloc (.cells #[.int .i64 O, .slice (some ⟨w3.heap.size, 0, none⟩) W W] 25)).drew) (w3.heap.size + 1) O (.slice (some ⟨w3.heap.size, 0, none⟩) W W) ∧
    Mine w (((w3.alloc (.cells (Array.replicate W (.int .u64 0)) 22)).alloc (.cells #[.int .i64 O, .slice (some ⟨w3.heap.size, 0, none⟩) W W] 25)).drew) 22 (.slice (some ⟨w3.heap.size, 0, none⟩) W W) (List.replicate W (.int .u64 0)) ∧
    Kept (fun _ => False) w3 (((w3.alloc (.cells (Array.replicate W (.int .u64 0)) 22)).alloc (.cells #[.int .i64 O, .slice (some ⟨w3.heap.size, 0, none⟩) W W] 25)).drew) := by
  refine ⟨?_, ?_, (((Kept.refl _ w3).alloc _).alloc _).drew⟩
  · have := heap_alloc_new (w3.alloc (.cells (Array.replicate W (.int .u64 0)) 22)) (.cells #[.int .i64 O, .slice (some ⟨w3.heap.size, 0, none⟩) W W] 25)
    have e : (w3.alloc (.cells (Array.replicate W (.int .u64 0)) 22)).heap.size = w3.heap.size + 1 := by simp
    rw [e] at this
    exact this
  · exact (mine_made hk W (.int .u64 0) 22 hW).on (((Kept.refl _ _).alloc _).drew)
theorem made2 {w w3 : World} (hk : Kept (fun _ => False) w w3) (W : Nat) (O : Int) (hW : W ≤ maxLen) :
    SideBox (((w3.alloc (.cells #[.int .i64 O, .slice (some ⟨w3.heap.size + 1, 0, none⟩) W W] 25)).alloc (.cells (Array.replicate W (.int .u64 0)) 22)).drew) w3.heap.size O (.slice (some ⟨w3.heap.size + 1, 0, none⟩) W W) ∧
    Mine w (((w3.alloc (.cells #[.int .i64 O, .slice (some ⟨w3.heap.size + 1, 0, none⟩) W W] 25)).alloc (.cells (Array.replicate W (.int .u64 0)) 22)).drew) 22 (.slice (some ⟨w3.heap.size + 1, 0, none⟩) W W) (List.replicate W (.int .u64 0)) ∧
    Kept (fun _ => False) w3 (((w3.alloc (.cells #[.int .i64 O, .slice (some ⟨w3.heap.size + 1, 0, none⟩) W W] 25)).alloc (.cells (Array.replicate W (.int .u64 0)) 22)).drew) := by
  refine ⟨?_, ?_, (((Kept.refl _ w3).alloc _).alloc _).drew⟩
  · exact ((Kept.refl (fun _ => False) (w3.alloc (.cells #[.int .i64 O, .slice (some ⟨w3.heap.size + 1, 0, none⟩) W W] 25))).alloc _).drew.same (heap_alloc_new w3 _) (fun x => x)
  · have := (mine_made (hk.alloc (.cells #[.int .i64 O, .slice (some ⟨w3.heap.size + 1, 0, none⟩) W W] 25)) W (.int .u64 0) 22 hW).on ((Kept.refl _ _).drew)
    simpa using this

set_option maxHeartbeats 4000000 in
set_option maxRecDepth 100000 in
theorem histDownSide_any (o : Int) (l : List Nat) (b : Nat) (v : Value) (w : World) (hv : SlAt w v (uvals l)) (ho : -1000000000000 ≤ o ∧ o ≤ 1000000000000) (hl : l.length ≤ 1000000) (hb : b ≤ 60) (hs : l.sum < 18446744073709551616) :
    Calls Try.prog 42 #[.agg #[.int .i64 o, v], .int .i64 b] w (SideOut w fun o' l' => o' = downO o l b ∧ l' = downL o l b) := by
  obtain ⟨h0, h1⟩ := ho
  have hv0 := Lib.hid hv
  obtain ⟨ao, c, hval, _, _⟩ := hv.val
  rw [uvals_length] at hval
  subst hval
  have hW1 := dWidth_le o l.length b
  have HWD := Lib.hid fun w' (k : Kept (fun _ => False) w w') => histWidth_any o l b _ w' (hv.kept k (fun _ _ x => x)) ⟨h0, h1⟩ hl hb
  obtain ⟨W, hW⟩ : ∃ W, W = dWidth o l.length b := ⟨_, rfl⟩
  rw [← hW] at HWD hW1
  have HWE := Lib.hid hW
  have kb : Kept (fun _ => False) w ((w.alloc (.cells #[.int .i64 o, .slice ao l.length c] 25)).alloc (.cells #[.int .i64 0, .slice none 0 0] 25)) := ((Kept.refl _ w).alloc _).alloc _
  obtain ⟨w2, hw2⟩ : ∃ w2, w2 = (w.alloc (.cells #[.int .i64 o, .slice ao l.length c] 25)).alloc (.cells #[.int .i64 0, .slice none 0 0] 25) := ⟨_, rfl⟩
  have bx : SideBox w2 w.heap.size o (.slice ao l.length c) := by
    rw [hw2]
    exact ((Kept.refl (fun _ => False) (w.alloc (.cells #[.int .i64 o, .slice ao l.length c] 25))).alloc _).same (heap_alloc_new w _) (fun x => x)
  have rx : SideBox w2 (w.heap.size + 1) 0 (.slice none 0 0) := by
    rw [hw2]
    have := heap_alloc_new (w.alloc (.cells #[.int .i64 o, .slice ao l.length c] 25)) (.cells #[.int .i64 0, .slice none 0 0] 25)
    simpa [SideBox] using this
  rw [← hw2] at kb
  have HKB := Lib.hid kb
  have HB := Lib.hid bx
  have HR := Lib.hid rx
  have HWD2 := HWD.out _ kb
  rw [hw2] at HWD2
  have HWD2 := Lib.hid HWD2
  have HW2 := Lib.hid hw2
  clear hv hW HWD kb bx rx hw2
  by_cases hz : W = 0
  · have q : ((W : Int) == 0) = true := beqT (by omega)
    have hl0 : l.length = 0 := by
      have := HWE.out
      rw [hz] at this
      unfold dWidth at this
      split at this
      · assumption
      · omega
    have HF : Hid (downO o l b = 0 ∧ downL o l b = []) := Lib.hid ⟨if_pos hl0, List.eq_nil_of_length_eq_zero (by rw [downL_length, ← HWE.out, hz])⟩
    clear hz hl0
    go_enter Try.func42, Try.ntmps42
    go_wp2_with (go_at_call 44; refine HWD2.out.mono ?_; rintro e w3 ⟨rfl, hk⟩; rw [← HW2.out] at hk; have K3 := Lib.hid (HKB.out.trans hk); have rx3 := HR.out.same hk (fun x => x); have RX3 := Lib.hid rx3; obtain ⟨⟨r0, r1⟩, f0, f1⟩ := rx3.c; clear hk)
    refine side_end (o := 0) (v := .slice none 0 0) Try.results42 rfl rfl (RX3.out.set 0 (.slice none 0 0)) ?_
    exact ⟨0, [], _, ⟨HF.out.1.symm, HF.out.2.symm⟩, rfl, Mine.nil' _ (two_kept K3.out (by omega))⟩
  · have q : ((W : Int) == 0) = false := beqF (by omega)
    have hl0 : l.length ≠ 0 := by
      intro h
      have := HWE.out
      unfold dWidth at this
      rw [if_pos h] at this
      exact hz this
    have HL0 := Lib.hid hl0
    clear hl0
    go_enter Try.func42, Try.ntmps42
    go_wp2_with (go_at_call 44; refine HWD2.out.mono ?_; rintro e w3 ⟨rfl, hk⟩; rw [← HW2.out] at hk; have K3 := Lib.hid (HKB.out.trans hk); have rx3 := HR.out.same hk (fun x => x); have RX3 := Lib.hid rx3; have bx3 := HB.out.same hk (fun x => x); have BX3 := Lib.hid bx3; obtain ⟨⟨b0, b1⟩, _⟩ := bx3.c; clear hk rx3 bx3)
    go_upto_region 4 with fail
    obtain ⟨iU, hiU, hzU0, hzU1, hzU2⟩ := info_parts Try.infoU64
    have hmk := fun w' => run_make1 (P := Try.prog) Try.underlying23 hiU hzU0 hzU1 rfl (by omega) W (by omega) w'
    obtain ⟨O, hO⟩ : ∃ O, O = o / 2 ^ b := ⟨_, rfl⟩
    have s4 : o / 2 ^ b = O := hO.symm
    have mb : min b 64 = b := by omega
    have bb0 : (0 : Int) ≤ (b : Int) := by omega
    have HO := Lib.hid hO
    clear hO
    go_cut [6] (fun s6 wc => ∃ p g, s6 = .pointer (some ⟨p, 0, none⟩) ∧ SideBox wc p O (.slice (some ⟨g, 0, none⟩) W W) ∧ w3.heap.size ≤ p ∧ Mine w wc 22 (.slice (some ⟨g, 0, none⟩) W W) (uvals (dAcc o l b 0)) ∧ Kept (fun _ => False) w3 wc)
    case first =>
      have ba1 : ∀ o', (w3.alloc o').cell? ⟨w.heap.size, 0, none⟩ = some (.int .i64 o) := fun o' => ((Kept.refl (fun _ => False) w3).alloc o').cell b0 (fun x => x)
      have ba2 : ∀ o1 o2, ((w3.alloc o1).alloc o2).cell? ⟨w.heap.size, 0, none⟩ = some (.int .i64 o) := fun o1 o2 => (((Kept.refl (fun _ => False) w3).alloc o1).alloc o2).cell b0 (fun x => x)
      have f1 := Lib.hid (made1 K3.out W O (by unfold maxLen; omega))
      have f2 := Lib.hid (made2 K3.out W O (by unfold maxLen; omega))
      have hz0 := Lib.hid (show uvals (dAcc o l b 0) = List.replicate W (.int .u64 0) by rw [dAcc_zero, uvals_replicate, HWE.out])
      go_region
      all_goals
        go_wp2
        go_meet
        case rel =>
          first
            | exact ⟨_, _, rfl, f1.out.1, by omega, by rw [hz0.out]; exact f1.out.2.1, f1.out.2.2⟩
            | exact ⟨_, _, rfl, f2.out.1, by omega, by rw [hz0.out]; exact f2.out.2.1, f2.out.2.2⟩
            | (trace_state; sorry)
    case rest =>
      obtain ⟨p, g, rfl, hbx, hp3, hm, hk⟩ := hcut
      have HKC := Lib.hid hk
      have HP := Lib.hid hbx
      have HM := Lib.hid hm
      have hgp : g ≠ p := fun e => own_box hm.own hbx (by decide) (by rw [e]; rfl)
      have hgb : g ≠ w.heap.size := fun e => own_box hm.own (BX3.out.same hk (fun x => x)) (by decide) (by rw [e]; rfl)
      have hgr : g ≠ w.heap.size + 1 := fun e => own_box hm.own (RX3.out.same hk (fun x => x)) (by decide) (by rw [e]; rfl)
      have hBC := Lib.hid (BX3.out.same hk (fun x => x))
      have hRC := Lib.hid (RX3.out.same hk (fun x => x))
      have hgW : w.heap.size ≤ g := (ownsRow_lt hm.own rfl).2
      obtain ⟨⟨b0', b1'⟩, _⟩ := hBC.out.c
      clear b0 b1 hbx hm hk
      go_wp2
      go_loopg [7, 8, 25, 26, 27, 28, 29, 30, 31, 32, 33, 34, 35, 36, 37, 38, 39, 40, 41, 42, 43, 44, 45, 46] l.length (fun g' s7 s8 s25 s26 s27 s28 s29 s30 s31 s32 s33 s34 s35 s36 s37 s38 s39 s40 s41 s42 s43 s44 s45 s46 wr => ∃ m : Nat, m ≤ l.length ∧ g' = l.length - m ∧ s25 = .int .i64 m ∧ Mine w wr 22 (.slice (some ⟨g, 0, none⟩) W W) (uvals (dAcc o l b m)) ∧ Kept (fun k => k = g) wc wr)
      case atStart => exact ⟨0, Nat.zero_le _, rfl, rfl, HM.out, Kept.refl _ _⟩
      case round =>
        obtain ⟨m, hml, rfl, rfl, hm, hk⟩ := hrel
        have HMM := Lib.hid hm
        have HKK := Lib.hid hk
        have hb := hBC.out.same hk (fun e => hgb e.symm)
        have hpx := HP.out.same hk (fun e => hgp e.symm)
        obtain ⟨⟨b0, b1⟩, _⟩ := hb.c
        obtain ⟨⟨p0, p1⟩, _⟩ := hpx.c
        clear b0' b1' hm hk hb hpx
        by_cases hd : m < l.length
        · have hdi : (m : Int) < (l.length : Int) := by omega
          have m0 : (0 : Int) ≤ (m : Int) := by omega
          have HD := Lib.hid hd
          obtain ⟨g2, off2, rfl, c0⟩ := (hv0.out.kept HMM.out.kept (fun _ _ x => x)).elem (uvals_get hd)
          obtain ⟨y, hy⟩ : ∃ y, y = l.getD m 0 := ⟨_, rfl⟩
          rw [← hy] at c0
          have hix := dIdx_lt o l.length b m hd
          have hie := dIdx_eq o b m
          have hds := dSum_le_sum o l b (m + 1) (dIdx o b m) (by omega)
          have hacc := dAcc_succ o l b m
          have hgd := dAcc_get o l b m (dIdx o b m) hix
          simp only [dSum, if_true] at hds
          rw [← hy] at hds hacc
          obtain ⟨D, hD⟩ : ∃ D, D = dIdx o b m := ⟨_, rfl⟩
          rw [← hD] at hix hie hds hacc hgd
          obtain ⟨X, hX⟩ : ∃ X, X = dSum o l b m D := ⟨_, rfl⟩
          rw [← hX] at hds hacc hgd
          have hmW : wr.ownsRow w.heap.size 22 1 (.slice (some ⟨g, 0, none⟩) W W) W (uvals (dAcc o l b m)) := by have := HMM.out.own; rwa [uvals_length, dAcc_length, ← HWE.out] at this
          have hcd := hmW.cellAt D (by have := HWE.out; omega)
          rw [uvals_get (by rw [dAcc_length]; exact hix), hgd] at hcd
          have hfd : wr.frozen? ⟨g, D, none⟩ = false := by
            obtain ⟨cur, hc⟩ := ownsRow_block HMM.out.own (k := g) rfl
            simp [World.frozen?, hc]
          obtain ⟨A, hA⟩ : ∃ A, A = (o + (m : Int)) / 2 ^ b := ⟨_, rfl⟩
          rw [← hA, ← HO.out] at hie
          obtain ⟨Y, hY⟩ : ∃ Y, Y = X + y := ⟨_, rfl⟩
          have b1 := ediv_bound (o + (m : Int)) b 2000000000000 (by omega) (by omega) (by omega)
          have b2 := ediv_bound o b 2000000000000 (by omega) (by omega) (by omega)
          rw [← hA] at b1
          rw [← HO.out] at b2
          have t1 : IntKind.i64.wrap (o + (m : Int)) = o + (m : Int) := IntWalk.i64_in _ ⟨by omega, by omega⟩
          have t2 : (o + (m : Int)) / 2 ^ b = A := hA.symm
          have t3 : IntKind.i64.wrap (A - O) = (D : Int) := by rw [IntWalk.i64_in _ ⟨by omega, by omega⟩]; omega
          have t3' : IntKind.i64.wrap (D : Int) = (D : Int) := IntWalk.i64_in _ ⟨by omega, by omega⟩
          have t4 : IntKind.u64.wrap ((X : Int) + (y : Int)) = (Y : Int) := by rw [IntKind.wrap_u64]; omega
          have t5 : IntKind.u64.wrap (Y : Int) = (Y : Int) := by rw [IntKind.wrap_u64]; omega
          have D0 : (0 : Int) ≤ (D : Int) := by omega
          have DW : (D : Int) < (W : Int) := by have := HWE.out; omega
          have HACC := Lib.hid (show uvals (dAcc o l b (m + 1)) = (uvals (dAcc o l b m)).set D (.int .u64 (Y : Int)) by rw [uvals_set, hacc, hY])
          have HMW := Lib.hid hmW
          clear hix hie hds hacc hgd hD hX hA hY b1 b2 hy hd s4 hmW
          go_wp2
          go_still_tail 16, (by kernel_rfl)
          obtain ⟨w4, hw4⟩ : ∃ w4, w4 = wr.drew := ⟨_, rfl⟩
          have K4 : Kept (fun _ => False) wr w4 := by rw [hw4]; exact (Kept.refl _ wr).drew
          have hc4 := K4.cell hcd (fun x => x)
          have hf4 : w4.frozen? ⟨g, D, none⟩ = false := by rw [hw4]; exact hfd
          have HMW4 := Lib.hid (K4.owns HMW.out (fun _ _ x => x))
          have HK4 := Lib.hid K4
          change wpList _ _ _ _ _ wr.drew
          rw [← hw4]
          clear hw4 K4 hcd hfd
          go_wp2
          have HN : Mine w (w4.setCell ⟨g, D, none⟩ (.int .u64 (Y : Int))) 22 (.slice (some ⟨g, 0, none⟩) W W) (uvals (dAcc o l b (m + 1))) ∧ Kept (fun k => k = g) wc (w4.setCell ⟨g, D, none⟩ (.int .u64 (Y : Int))) := by
            refine ⟨?_, ?_⟩
            · rw [HACC.out]
              have := owns_set HMW4.out D (.int .u64 (Y : Int))
              refine Mine.ofFresh this ((HMM.out.kept.trans HK4.out).newer ((Kept.refl (fun k => k = g) w4).setCell (p := ⟨g, D, none⟩) (fun _ => rfl) _) (fun i e => by rw [e]; exact hgW))
            · exact (HKK.out.trans (HK4.out.mono (fun _ _ x => x.elim))).setCell (fun _ => rfl) _
          have HN := Lib.hid HN
          go_roundg (l.length - (m + 1))
          case measure => have := HD.out; omega
          case rel => exact ⟨m + 1, HD.out, rfl, by go_num, HN.out.1, HN.out.2⟩
        · obtain rfl : m = l.length := by omega
          have hrx := hRC.out.same HKK.out (fun e => hgr e.symm)
          have RX := Lib.hid hrx
          obtain ⟨⟨r0, r1⟩, f0, f1⟩ := hrx.c
          have HF := Lib.hid (show O = downO o l b by unfold downO; rw [if_neg HL0.out]; exact HO.out)
          clear hrx hd
          go_wp2
          refine side_end (o := O) (v := .slice (some ⟨g, 0, none⟩) W W) Try.results42 rfl rfl (RX.out.set _ _) ?_
          exact ⟨O, downL o l b, _, ⟨HF.out, rfl⟩, rfl, HMM.out.setBox RX.out (by decide) (by omega) _ _⟩
end Go.Proofs.Ytbjpcddnjndjlaa
