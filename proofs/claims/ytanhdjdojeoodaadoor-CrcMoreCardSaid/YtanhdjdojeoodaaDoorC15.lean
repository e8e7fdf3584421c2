/- The walk of 'CrcTells'. -/
import Derived.Test.YtanhdjdojeoodaaDoorC14
import Derived.Lib.SmallJoins
namespace Go.Proofs.YtanhdjdojeoodaaDoor
open Go.RowKit
attribute [local go_sem ↓] Go.wp_at_zero Go.wp_at_succ

theorem info_u8 : (Tryd.prog.info? 5).map (fun i => (i.zero, i.size, i.bytes)) = some (some (.int .u8 0), 1, 1) := by kernel_rfl
set_option maxHeartbeats 1000000 in
theorem crcTells_good (a : Addr) (c : Nat) (l : List Nat) (k b : Nat) (W : World) (HB : Row8 W (.slice (some a) l.length c) l) (HN : Nibs W) (hk : k < l.length) (hl : l.length ≤ 3000) (h0 : 0 < b) (hb : b < 256) :
    Calls Tryd.prog 7 #[.slice (some a) l.length c, .int .i64 k, .int .u8 b] W fun e w' => e = .returned (.bool true) ∧ Kept (fun _ => False) W w' := by
  obtain ⟨i0, hi, hz0, hz1, hz2⟩ := info_parts info_u8
  have HA := Lib.hid (awake_any W HN)
  have hbb : ∀ x ∈ l, x < 256 := by obtain ⟨_, _, _, hb, _⟩ := HB; exact hb
  have c1 : decide ((3000 : Int) < (l.length : Int)) = false := decide_eq_false (by omega)
  have c2 : decide ((k : Int) < 0) = false := decide_eq_false (by omega)
  have c3 : decide ((l.length : Int) ≤ (k : Int)) = false := decide_eq_false (by omega)
  have c4 : ((b : Int) == 0) = false := beq_eq_false_iff_ne.2 (by omega)
  have HT := tells l k b hbb hk h0 hb
  have HX := xor8 (l.getD k 0) b (getD_lt hbb hk) hb
  have hset : ∀ x ∈ l.set k (l.getD k 0 ^^^ b), x < 256 := set_lt hbb (Nat.xor_lt_two_pow (n := 8) (getD_lt hbb hk) hb)
  have k0 : (0 : Int) ≤ (k : Int) := by omega
  have k1 : (k : Int) < (l.length : Int) := by omega
  have HBB := Lib.hid hbb
  have HS := Lib.hid hset
  have HBW := Lib.hid HB
  have HNW := Lib.hid HN
  have HXX := Lib.hid HX
  have HTT := Lib.hid HT
  have hl' := Lib.hid hl
  have hk' := Lib.hid hk
  clear hbb hset HB HN HX HT
  go_enter Tryd.func7, Tryd.ntmps7
  go_wp2_with (first
    | (go_at_call 8; refine HA.out.mono ?_; rintro e w1 ⟨rfl, hk1⟩; have H1 := Lib.hid hk1; clear hk1)
    | (at_builtin; refine wpList_append_src _ rfl (.tmp 27) (.tmp 28) 22 22 rfl w1.heap.size 5 i0 (.int .u8 0) 1 1 Tryd.underlying22 hi hz0 hz1 hz2 rfl (.slice (some ⟨w1.heap.size, 0, none⟩) 0 0) 0 [] rfl ?c0 (.slice (some a) l.length c) l.length (b8 l) rfl ?cs ?c1 ?c2 ?c3 ?_))
  case c0 => exact ⟨rfl, .inr ⟨w1.heap.size, 0, #[], rfl, Nat.le_refl _, heap_alloc_last w1 _, Nat.le_refl _, by unfold maxLen; omega, rfl, rfl⟩⟩
  case cs => exact (HBW.out.kept (H1.out.alloc _)).src
  case c1 => unfold maxLen; omega
  case c2 => omega
  case c3 => simp
  intro v' w2 hown hg _ hat
  have hkeep : Kept (fun _ => False) W w2 := (H1.out.alloc _).grown hg (fun q hq hlt => by simp [Value.ownBlock] at hq; have := H1.out.size; omega)
  replace hown : w2.ownsRow w1.heap.size 5 1 v' l.length (b8 l) := by simpa using hown
  rcases hown.2 with ⟨_, h⟩ | ⟨g, cap, cur, rfl, hg1, hg2, hg3, hg4, hg5, hg6⟩
  · omega
  have hg6' : cur.toList.take l.length = b8 l := by simpa using hg6
  have hgW : W.heap.size ≤ g := Nat.le_trans H1.out.size hg1
  obtain ⟨hs1, hs2⟩ := own_set (j := k) (x := l.getD k 0 ^^^ b) hg2 hg6'
  have R1 := row8_of_own (cap := cap) HS.out hs1 hs2
  rw [List.length_set] at R1
  have K2 : Kept (fun _ => False) W (w2.setCell ⟨g, k, none⟩ (.int .u8 ((l.getD k 0 ^^^ b : Nat) : Int))) := hkeep.setCell (fun x => by simp only at x; omega) _
  have D1 := crcOf_any _ _ (by rw [List.length_set]; omega) _ R1 (HNW.out.kept K2)
  have D2 := crcOf_any _ _ (by omega) _ (HBW.out.kept K2) (HNW.out.kept K2)
  have hcell : w2.cell? ⟨g, k, none⟩ = some (.int .u8 ((l.getD k 0 : Nat) : Int)) := by
    have := hown.cells (g := g) rfl k _ (b8_at l k hk'.out)
    have e : (⟨g, 0, none⟩ : Addr).add k = ⟨g, k, none⟩ := by unfold Addr.add; split <;> simp_all
    rwa [e] at this
  have hfree : w2.frozen? ⟨g, k, none⟩ = false := frozen_of_row w2 g k _ _ hg2
  obtain ⟨X, hX⟩ : ∃ X, X = l.getD k 0 := ⟨_, rfl⟩
  rw [← hX] at hcell HXX D1 D2 K2 HTT
  have hX2 := HXX.out
  obtain ⟨Y, hY⟩ : ∃ Y, Y = X ^^^ b := ⟨_, rfl⟩
  rw [← hY] at hX2 D1 D2 K2 HTT
  obtain ⟨P1, hP1⟩ : ∃ P1, P1 = crcMore 0 (l.set k Y) := ⟨_, rfl⟩
  obtain ⟨P2, hP2⟩ : ∃ P2, P2 = crcMore 0 l := ⟨_, rfl⟩
  rw [← hP1] at D1
  rw [← hP2] at D2
  have hne : ¬ ((P1 : Int) = (P2 : Int)) := by
    intro h
    apply HTT.out
    rw [← hP1, ← hP2]
    omega
  have E1 := Lib.hid D1
  have E2 := Lib.hid D2
  have F2 := Lib.hid K2
  clear D1 D2 K2 hown hg hat hg2 hg6 hg6' hs1 hs2 R1 hkeep hP1 hP2 hY hX
  go_wp2_with (first
    | (go_at_call_of 9 g; refine E1.out.mono ?_; rintro e w' ⟨rfl, rfl⟩)
    | (go_at_call 9; refine E2.out.mono ?_; rintro e w' ⟨rfl, rfl⟩))
  go_ret
  exact ⟨by simp [hne], F2.out⟩

set_option maxHeartbeats 1000000 in
theorem crcTells_big (ao : Option Addr) (c : Nat) (l : List Nat) (k b : Int) (W : World) (HN : Nibs W) (_hl : l.length ≤ 9223372036854775807) (c1 : decide ((3000 : Int) < (l.length : Int)) = true) :
    Calls Tryd.prog 7 #[.slice ao l.length c, .int .i64 k, .int .u8 b] W fun e w' => e = .returned (.bool true) ∧ Kept (fun _ => False) W w' := by
  have HA := Lib.hid (awake_any W HN)
  clear HN
  go_enter Tryd.func7, Tryd.ntmps7
  go_wp2_with (go_at_call 8; refine HA.out.mono ?_; rintro e w1 ⟨rfl, hk1⟩; have H1 := Lib.hid hk1; clear hk1)
  go_ret
  exact ⟨rfl, H1.out⟩

set_option maxHeartbeats 1000000 in
theorem crcTells_neg (ao : Option Addr) (c : Nat) (l : List Nat) (k b : Int) (W : World) (HN : Nibs W) (_hl : l.length ≤ 9223372036854775807) (c1 : decide ((3000 : Int) < (l.length : Int)) = false) (c2 : decide (k < 0) = true) :
    Calls Tryd.prog 7 #[.slice ao l.length c, .int .i64 k, .int .u8 b] W fun e w' => e = .returned (.bool true) ∧ Kept (fun _ => False) W w' := by
  have HA := Lib.hid (awake_any W HN)
  clear HN
  go_enter Tryd.func7, Tryd.ntmps7
  go_wp2_with (go_at_call 8; refine HA.out.mono ?_; rintro e w1 ⟨rfl, hk1⟩; have H1 := Lib.hid hk1; clear hk1)
  go_ret
  exact ⟨rfl, H1.out⟩

set_option maxHeartbeats 1000000 in
theorem crcTells_out (ao : Option Addr) (c : Nat) (l : List Nat) (k b : Int) (W : World) (HN : Nibs W) (_hl : l.length ≤ 9223372036854775807) (c1 : decide ((3000 : Int) < (l.length : Int)) = false) (c2 : decide (k < 0) = false) (c3 : decide ((l.length : Int) ≤ k) = true) :
    Calls Tryd.prog 7 #[.slice ao l.length c, .int .i64 k, .int .u8 b] W fun e w' => e = .returned (.bool true) ∧ Kept (fun _ => False) W w' := by
  have HA := Lib.hid (awake_any W HN)
  clear HN
  go_enter Tryd.func7, Tryd.ntmps7
  go_wp2_with (go_at_call 8; refine HA.out.mono ?_; rintro e w1 ⟨rfl, hk1⟩; have H1 := Lib.hid hk1; clear hk1)
  go_ret
  exact ⟨rfl, H1.out⟩

set_option maxHeartbeats 1000000 in
theorem crcTells_same (ao : Option Addr) (c : Nat) (l : List Nat) (k b : Int) (W : World) (HN : Nibs W) (_hl : l.length ≤ 9223372036854775807) (c1 : decide ((3000 : Int) < (l.length : Int)) = false) (c2 : decide (k < 0) = false) (c3 : decide ((l.length : Int) ≤ k) = false) (c4 : (b == 0) = true) :
    Calls Tryd.prog 7 #[.slice ao l.length c, .int .i64 k, .int .u8 b] W fun e w' => e = .returned (.bool true) ∧ Kept (fun _ => False) W w' := by
  have HA := Lib.hid (awake_any W HN)
  clear HN
  go_enter Tryd.func7, Tryd.ntmps7
  go_wp2_with (go_at_call 8; refine HA.out.mono ?_; rintro e w1 ⟨rfl, hk1⟩; have H1 := Lib.hid hk1; clear hk1)
  go_ret
  exact ⟨rfl, H1.out⟩

theorem crcTells_walk (ao : Option Addr) (len cap : Nat) (zs : List Int) (k b : Int) (W : World) (hrow : IsRow .u8 W ao len cap zs) (hk : -9223372036854775808 ≤ k ∧ k ≤ 9223372036854775807) (hb : 0 ≤ b ∧ b ≤ 255) (HN : Nibs W) :
    Calls Tryd.prog 7 #[.slice ao len cap, .int .i64 k, .int .u8 b] W fun e w' => e = .returned (.bool true) ∧ Kept (fun _ => False) W w' := by
  obtain ⟨l, rfl, HB, hmx⟩ := hrow.row8
  have hmx' : l.length ≤ 9223372036854775807 := by unfold maxLen at hmx; omega
  by_cases h1 : (3000 : Int) < (l.length : Int)
  · exact crcTells_big ao cap l k b W HN hmx' (decide_eq_true h1)
  by_cases h2 : k < 0
  · exact crcTells_neg ao cap l k b W HN hmx' (decide_eq_false h1) (decide_eq_true h2)
  by_cases h3 : (l.length : Int) ≤ k
  · exact crcTells_out ao cap l k b W HN hmx' (decide_eq_false h1) (decide_eq_false h2) (decide_eq_true h3)
  by_cases h4 : b = 0
  · exact crcTells_same ao cap l k b W HN hmx' (decide_eq_false h1) (decide_eq_false h2) (decide_eq_false h3) (beq_iff_eq.2 h4)
  obtain ⟨n, rfl⟩ : ∃ n : Nat, k = n := ⟨k.toNat, by omega⟩
  obtain ⟨m, rfl⟩ : ∃ m : Nat, b = m := ⟨b.toNat, by omega⟩
  have hb0 := HB
  obtain ⟨ao', c', hv, hbb, hc⟩ := hb0
  obtain ⟨a, ha, _⟩ := hc n (by omega)
  cases hv
  subst ha
  exact crcTells_good a cap l n m W HB HN (by omega) (by omega) (by omega) (by omega)
end Go.Proofs.YtanhdjdojeoodaaDoor
