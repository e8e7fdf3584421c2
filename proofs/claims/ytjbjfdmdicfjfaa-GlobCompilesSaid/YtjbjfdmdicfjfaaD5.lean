/- package glob, layer 32: other; a piece's holds. -/
import Derived.Test.YtjbjfdmdicfjfaaD4
namespace Go.Proofs.Ytjbjfdmdicfjfaa
open Go.RowKit
attribute [local go_sem ↓] Go.wp_at_zero Go.wp_at_succ

def negW (W : List Nat) : List Nat := W.map fun x => 18446744073709551615 - x
theorem size4 (W : List Nat) (h : W.length = 4) : (Try.prog.info? 43).map (·.size) = some (uvals W).toArray.size := by
  have e : (Try.prog.info? 43).map (·.size) = some 4 := by kernel_rfl
  rw [e]; simp [uvals_length, h]
theorem uvals_all (W : List Nat) : (uvals W).toArray.all (·.oneCell') = true := by
  rw [Array.all_eq_true_iff_forall_mem]
  intro v hv
  exact uvals_one W v (by simpa using hv)
theorem negW_step {W : List Nat} {i : Nat} (hi : i < W.length) : (((negW W).take i ++ W.drop i).set i (18446744073709551615 - W.getD i 0)) = (negW W).take (i + 1) ++ W.drop (i + 1) := by
  have hl : (negW W).length = W.length := by simp [negW]
  rw [List.set_append_right _ _ (by rw [List.length_take]; omega), List.length_take, Nat.min_eq_left (by omega), Nat.sub_self, drop_cons hi, List.set_cons_zero, List.take_add_one, List.append_assoc]
  congr 1
  unfold negW
  rw [List.getElem?_map, List.getElem?_eq_getElem hi, List.getD_eq_getElem?_getD, List.getElem?_eq_getElem hi]
  rfl
theorem negW_at {W : List Nat} {i : Nat} (hi : i < W.length) : ((negW W).take i ++ W.drop i).getD i 0 = W.getD i 0 := by
  have hl : (negW W).length = W.length := by simp [negW]
  rw [List.getD_eq_getElem?_getD, List.getElem?_append_right (by rw [List.length_take]; omega), List.length_take, Nat.min_eq_left (by omega), Nat.sub_self, List.getElem?_drop, Nat.add_zero, List.getD_eq_getElem?_getD]
theorem not64 (x : Nat) (hx : x < 18446744073709551616) : bits .xor .u64 18446744073709551615 (x : Int) = ((18446744073709551615 - x : Nat) : Int) := by
  have h := u64_xor_nat 18446744073709551615 x (by omega) hx
  have e : 18446744073709551615 ^^^ x = 18446744073709551615 - x := by
    apply Nat.eq_of_testBit_eq
    intro i
    have h1 := Nat.testBit_two_pow_sub_one 64 i
    have h2 := Nat.testBit_two_pow_sub_succ (show x < 2 ^ 64 from hx) i
    rw [Nat.testBit_xor, show 18446744073709551615 - x = 2 ^ 64 - (x + 1) by omega, h2, show (18446744073709551615 : Nat) = 2 ^ 64 - 1 by decide, h1]
    by_cases hi : i < 64
    · simp [hi]
    · have : x.testBit i = false := Nat.testBit_lt_two_pow (Nat.lt_of_lt_of_le (show x < 2 ^ 64 from hx) (Nat.pow_le_pow_right (by omega) (by omega)))
      simp [hi, this]
  rw [e] at h
  exact h
set_option maxHeartbeats 2000000 in
theorem other_any (W : List Nat) (f : Nat → Bool) (hW : Wd W f) (w : World) :
    Calls Try.prog 30 #[.agg (uvals W).toArray] w fun e w' => e = .returned (.agg (uvals (negW W)).toArray) ∧ Kept (fun _ => False) w w' := by
  have hl := hW.len
  obtain ⟨w1, hw1⟩ : ∃ wa, wa = (w.alloc (.cells (uvals W).toArray 43)).alloc (.cells #[.int .u64 0, .int .u64 0, .int .u64 0, .int .u64 0] 43) := ⟨_, rfl⟩
  have hb1 : w1.heap[w.heap.size]? = some (.cells (uvals W).toArray 43 (0, 0)) := by rw [hw1, Below.heap_alloc _ _ _ (by simp)]; exact heap_alloc_new w _
  have hb2 : w1.heap[w.heap.size + 1]? = some (.cells (uvals [0, 0, 0, 0]).toArray 43 (0, 0)) := by
    have := heap_alloc_new (w.alloc (.cells (uvals W).toArray 43)) (.cells #[.int .u64 0, .int .u64 0, .int .u64 0, .int .u64 0] 43)
    rw [show (w.alloc (.cells (uvals W).toArray 43)).heap.size = w.heap.size + 1 by simp] at this
    rw [hw1]; exact this
  have hk : Kept (fun _ => False) w w1 := by rw [hw1]; exact ((Kept.refl _ _).alloc _).alloc _
  have HK := Lib.hid hk
  have HB := Lib.hid (And.intro hb1 hb2)
  go_enter Try.func30, Try.ntmps30
  go_upto_region 1 with fail
  rw [← hw1]
  obtain ⟨p, hp⟩ : ∃ p, p = w.heap.size := ⟨_, rfl⟩
  have HP := Lib.hid hp
  rw [← hp] at HB ⊢
  clear hw1 hb1 hb2 hk hp
  go_wp2
  go_loopg [4] 4 (fun G s4 wr => ∃ i : Nat, i ≤ 4 ∧ G = 4 - i ∧ s4 = .int .i64 i ∧ wr.heap[p]? = some (.cells (uvals ((negW W).take i ++ W.drop i)).toArray 43 (0, 0)) ∧ wr.heap[p + 1]? = some (.cells (uvals [0, 0, 0, 0]).toArray 43 (0, 0)) ∧ Kept (fun _ => False) w wr)
  case atStart => exact ⟨0, by omega, rfl, rfl, HB.out.1, HB.out.2, HK.out⟩
  case round =>
    obtain ⟨i, hi4, rfl, rfl, hb1, hb2, hk⟩ := hrel
    have H1 := Lib.hid hb1
    have H2 := Lib.hid hb2
    have HKR := Lib.hid hk
    by_cases hd : i < 4
    · have hdi : (i : Int) < 4 := by omega
      have hdi' : decide (i < 4) = true := decide_eq_true hd
      have hc : wr.cell? ⟨p, i, none⟩ = some (.int .u64 ((W.getD i 0 : Nat) : Int)) := by
        rw [cell_of_row _ _ _ _ _ _ hb1, ← negW_at (W := W) (i := i) (by omega)]
        have hlen : (negW W).length = 4 := by simp [negW, hl]
        simpa using uvals_get (l := (negW W).take i ++ W.drop i) (j := i) (by rw [List.length_append, List.length_take, List.length_drop]; omega)
      have hfz := frozen_of_row wr p i _ _ hb1
      have hlt := hW.getD_lt i
      obtain ⟨x, hx⟩ : ∃ x, x = W.getD i 0 := ⟨_, rfl⟩
      rw [← hx] at hc hlt
      have HX := Lib.hid hx
      have HL := Lib.hid hl
      have wi : IntKind.i64.wrap ((i : Int) + 1) = ((i + 1 : Nat) : Int) := by rw [IntWalk.i64_in _ ⟨by omega, by omega⟩]; omega
      clear hx hb1 hb2 hk hl
      go_wp2
      have hxo : bits .xor .u64 IntKind.u64.max (x : Int) = ((18446744073709551615 - x : Nat) : Int) := not64 x hlt
      rw [hxo]
      have hl := HL.out
      have hn1 : ∀ y, y = 18446744073709551615 - x → (wr.setCell ⟨p, i, none⟩ (.int .u64 (y : Int))).heap[p]? = some (.cells (uvals ((negW W).take (i + 1) ++ W.drop (i + 1))).toArray 43 (0, 0)) := by
        intro y hy
        rw [heap_setCell_same _ _ _ _ _ _ H1.out, ← negW_step (by omega), ← HX.out, ← hy]
        congr 2
        apply Array.toList_inj.1
        simp [uvals, List.map_set]
      have hn2 : ∀ y : Nat, (wr.setCell ⟨p, i, none⟩ (.int .u64 (y : Int))).heap[p + 1]? = some (.cells (uvals [0, 0, 0, 0]).toArray 43 (0, 0)) := fun y => by
        rw [heap_setCell_other _ _ _ _ (by show p + 1 ≠ p; omega)]; exact H2.out
      have HN := Lib.hid (And.intro (hn1 _ rfl) (And.intro (hn2 (18446744073709551615 - x)) (HKR.out.setCell (p := ⟨p, i, none⟩) (fun e => by have := HP.out; simp only at e; omega) (.int .u64 ((18446744073709551615 - x : Nat) : Int)))))
      clear hn1 hn2 hxo hc hfz hl
      obtain ⟨wn, hwn⟩ : ∃ wn, wn = wr.setCell ⟨p, i, none⟩ (.int .u64 ((18446744073709551615 - x : Nat) : Int)) := ⟨_, rfl⟩
      rw [← hwn] at HN ⊢
      clear hwn
      go_roundg (4 - (i + 1))
      case measure => omega
      case rel => exact ⟨i + 1, by omega, rfl, rfl, HN.out.1, HN.out.2.1, HN.out.2.2⟩
    · obtain rfl : i = 4 := by omega
      have hlen : (negW W).length = 4 := by simp [negW, hl]
      have e4 : (negW W).take 4 ++ W.drop 4 = negW W := by rw [List.take_of_length_le (by omega), List.drop_eq_nil_of_le (by omega), List.append_nil]
      rw [e4] at H1
      have HT := Lib.hid (size4 (negW W) hlen)
      have hsz : (uvals [0, 0, 0, 0]).toArray.size = (uvals (negW W)).toArray.size := by simp [uvals_length, hlen]
      have HSZ := Lib.hid hsz
      clear hb1 hb2 hk hsz e4 hlen
      go_wp2_with (first
        | (refine wpList_load_row rfl 43 (.tmp 1) rfl p rfl 43 (uvals (negW W)).toArray (0, 0) _ H1.out Try.underlying43 rfl HT.out ?_)
        | (refine wpList_store_row rfl 43 (.tmp 2) _ rfl (p + 1) (uvals (negW W)).toArray rfl rfl 43 (uvals [0, 0, 0, 0]).toArray H2.out HT.out HSZ.out (uvals_all _) ?_))
      refine bodyPost_ret (v := .agg (uvals (negW W)).toArray) ?_ rfl ⟨rfl, ?_⟩
      · exact results_cell_row Try.results30 _ _ (p + 1) 43 _ (0, 0) _ rfl (setRow_heap _ _ _ _ _ _ H2.out) Try.underlying43 rfl HT.out
      · have hk := HKR.out
        exact ⟨hk.os, hk.tape, hk.output, by simpa using hk.size, fun k hk2 hn => by rw [setRow_other _ _ _ _ (by have := HP.out; omega)]; exact hk.block k hk2 hn⟩
end Go.Proofs.Ytjbjfdmdicfjfaa
