/- package pack's writer: Num. -/
import Derived.Test.YtkidbbmdlmnokaaP2
import Derived.Outline
import Derived.Deep.RegionLaw
import Derived.Deep.DeepCutAuto
import Derived.Deep.LoopGhost
namespace Go.Proofs.Ytkidbbmdlmnokaa
open Go.RowKit
attribute [local go_sem ↓] Go.wp_at_zero Go.wp_at_succ

set_option maxHeartbeats 1000000 in
set_option maxRecDepth 100000 in
theorem num_any (B p : Nat) (v : Value) (l : List Int) (x : Int) (w : World) (HW : WrAt 110 5 w B p v l) (hB : B ≤ w.heap.size) (h0 : 0 ≤ x) (h1 : x ≤ 18446744073709551615)
    (hl : l.length ≤ 1000000000) :
    Calls Try.prog 48 #[.pointer (some ⟨p, 0, none⟩), .int .u64 x] w fun e w' => e = .returned (.tuple #[]) ∧ WrTo 110 5 w w' B p v (l ++ numB x) := by
  obtain ⟨i0, hi, hz0, hz1, hz2⟩ := info_parts Try.info5
  have hc := HW.cell
  have hf := HW.free
  have hk8 := oth_le x
  have hk8' : (oth x : Int) ≤ 8 := by omega
  have hk0 : (0 : Int) ≤ (oth x : Int) := by omega
  have e1 : IntKind.i64.wrap (8 * (oth x : Int)) = 8 * (oth x : Int) := IntWalk.i64_in _ ⟨by omega, by omega⟩
  have e2 : (0 : Int) ≤ 8 * (oth x : Int) := by omega
  have e3 : 8 * (oth x : Int) ≤ 64 := by omega
  have HY := Lib.hid (first_bits x h0 h1)
  obtain ⟨ao, cp, rfl⟩ := ownsRow_slice HW.owns
  have hp := HW.lt
  have hne : ¬ some p = (Value.slice ao l.length cp).ownBlock := fun e => HW.apart e.symm
  go_enter Try.func48, Try.ntmps48
  go_wp2_with (go_at_call 85; refine (others_any _ h0 h1 _).mono ?_; rintro e w' ⟨rfl, rfl⟩)
  go_cut [] (fun wc => WrTo 110 5 w wc B p (.slice ao l.length cp) (l ++ [firstB x (oth x)]))
  case first =>
    go_region_law
      ((refine step_append_src _ (by rfl) (.tmp 16) (.tmp 24) 27 27 (by rfl) B 5 i0 (.int .u8 0) 1 1 Try.underlying27 hi hz0 hz1 hz2 rfl (.slice ao l.length cp) l.length (u8s l) (by rfl) (by exact (HW.owns.alloc _).drew) (.slice (some ⟨w.heap.size, 0, none⟩) 1 1) 1 [(.int .u8 (bits .or .u8 (bits .xor .u8 IntKind.u8.max (255 / 2 ^ oth x)) (IntKind.u8.wrap (x / 2 ^ (8 * (oth x : Int)).toNat))))] (by rfl) (by exact src_one_drew w Try.underlying27 (.int .u8 (bits .or .u8 (bits .xor .u8 IntKind.u8.max (255 / 2 ^ oth x)) (IntKind.u8.wrap (x / 2 ^ (8 * (oth x : Int)).toNat)))) rfl) (by unfold maxLen; omega) (by omega) (by simp; omega) ?_; intro v1 w1 hown hg _ hat; obtain ⟨a1, c1, rfl⟩ := ownsRow_slice hown; have hk1 : Kept (fun _ => False) w (w.alloc (.cells #[(.int .u8 (bits .or .u8 (bits .xor .u8 IntKind.u8.max (255 / 2 ^ oth x)) (IntKind.u8.wrap (x / 2 ^ (8 * (oth x : Int)).toNat))))] 5)).drew := ((Kept.refl _ _).alloc _).drew; have hbox := HW.behind hk1 hg; have hc1 := cell_of_one hbox; have hf1 := free_of_one hbox))
    all_goals
      try go_wp2_with fail
      go_meet
      case rel =>
        rw [HY.out] at hown
        exact HW.pushed hk1 hown hg rfl hat
  case rest =>
    go_wp2
    go_loopw [29] (fun i wr => ∃ j : Nat, j ≤ oth x ∧ i = .int .i64 j ∧ WrTo 110 5 w wr B p (.slice ao l.length cp) (l ++ firstB x (oth x) :: restB x (oth x) j)) (fun i _ => oth x - (intOf i).toNat)
    case atStart => exact ⟨0, Nat.zero_le _, rfl, hcut⟩
    case round =>
      obtain ⟨j, hj, rfl, hto⟩ := hrel
      by_cases hd : j < oth x
      · have hj0 : (0 : Int) ≤ (j : Int) := by omega
        have hj1 : (j : Int) < (oth x : Int) := by omega
        have e4 : IntKind.i64.wrap ((oth x : Int) - 1) = (oth x : Int) - 1 := IntWalk.i64_in _ ⟨by omega, by omega⟩
        have e5 : IntKind.i64.wrap ((oth x : Int) - 1 - (j : Int)) = (oth x : Int) - 1 - (j : Int) := IntWalk.i64_in _ ⟨by omega, by omega⟩
        have e6 : IntKind.i64.wrap (8 * ((oth x : Int) - 1 - (j : Int))) = 8 * ((oth x : Int) - 1 - (j : Int)) := IntWalk.i64_in _ ⟨by omega, by omega⟩
        have e7 : (0 : Int) ≤ 8 * ((oth x : Int) - 1 - (j : Int)) := by omega
        have e8 : 8 * ((oth x : Int) - 1 - (j : Int)) ≤ 64 := by omega
        obtain ⟨v1, HW1, hsz1, back⟩ := hto.part
        have hB1 : B ≤ wr.heap.size := Nat.le_trans hB hsz1
        have hlen1 : (l ++ firstB x (oth x) :: restB x (oth x) j).length ≤ 1000000010 := by simp [restB_length]; omega
        obtain ⟨l1, hl1⟩ : ∃ l1, l1 = l ++ firstB x (oth x) :: restB x (oth x) j := ⟨_, rfl⟩
        rw [← hl1] at HW1 hlen1
        have HY1 := Lib.hid (byte_shift x (8 * ((oth x : Int) - 1 - (j : Int))) (oth x - 1 - j) (by omega))
        have HL1 := Lib.hid hl1
        clear hl1
        have hc1 := HW1.cell
        have hf1 := HW1.free
        have hp1 := HW1.lt
        obtain ⟨ao1, cp1, rfl⟩ := ownsRow_slice HW1.owns
        clear hc hf HW hne hp hto
        go_wp2
        go_region_law
          ((refine step_append_src _ (by rfl) (.tmp 36) (.tmp 45) 27 27 (by rfl) B 5 i0 (.int .u8 0) 1 1 Try.underlying27 hi hz0 hz1 hz2 rfl (.slice ao1 l1.length cp1) l1.length (u8s l1) (by rfl) (by exact (HW1.owns.alloc _).drew) (.slice (some ⟨wr.heap.size, 0, none⟩) 1 1) 1 [(.int .u8 (IntKind.u8.wrap (x / 2 ^ (8 * ((oth x : Int) - 1 - (j : Int))).toNat)))] (by rfl) (by exact src_one_drew wr Try.underlying27 (.int .u8 (IntKind.u8.wrap (x / 2 ^ (8 * ((oth x : Int) - 1 - (j : Int))).toNat))) rfl) (by unfold maxLen; omega) (by omega) (by simp; omega) ?_; intro v1 w1 hown hg _ hat; obtain ⟨a1, c1, rfl⟩ := ownsRow_slice hown; have hk1 : Kept (fun _ => False) wr (wr.alloc (.cells #[(.int .u8 (IntKind.u8.wrap (x / 2 ^ (8 * ((oth x : Int) - 1 - (j : Int))).toNat)))] 5)).drew := ((Kept.refl _ _).alloc _).drew; have hbox := HW1.behind hk1 hg; have hc1 := cell_of_one hbox; have hf1 := free_of_one hbox))
        all_goals
          rw [HY1.out] at hown
          have fin := Lib.hid (back.out _ _ (HW1.pushed (l2 := [byteI x (oth x - 1 - j)]) hk1 hown hg rfl hat))
          clear hown hg hat
          go_wp2
          go_roundw
          case rel =>
            have e : l1 ++ [byteI x (oth x - 1 - j)] = l ++ firstB x (oth x) :: restB x (oth x) (j + 1) := by rw [HL1.out, List.append_assoc, List.cons_append, restB_succ]
            exact ⟨j + 1, hd, by go_num, by rw [← e]; exact fin.out⟩
          case measure => simp [intOf]; omega
      · obtain rfl : j = oth x := by omega
        go_wp2
        go_end0
        exact ⟨rfl, hto⟩
end Go.Proofs.Ytkidbbmdlmnokaa
