/- The walk of 'CrcMore', all inputs. -/
import Derived.Test.YtanhdjdojeoodaaDoorC17
namespace Go.Proofs.YtanhdjdojeoodaaDoor
open Go.RowKit
attribute [local go_sem ↓] Go.wp_at_zero Go.wp_at_succ

set_option maxHeartbeats 1000000 in
theorem crcMore_biga (ao bo : Option Addr) (ca cb : Nat) (la lb : List Nat) (W : World) (HN : Nibs W) (_hl : la.length ≤ 9223372036854775807) (_hl2 : lb.length ≤ 9223372036854775807) (c1 : decide ((3000 : Int) < (la.length : Int)) = true) :
    Calls Tryd.prog 4 #[.slice ao la.length ca, .slice bo lb.length cb] W fun e w' => e = .returned (.bool true) ∧ Kept (fun _ => False) W w' := by
  have HA := Lib.hid (awake_any W HN)
  clear HN
  go_enter Tryd.func4, Tryd.ntmps4
  go_wp2_with (go_at_call 8; refine HA.out.mono ?_; rintro e w1 ⟨rfl, hk1⟩; have H1 := Lib.hid hk1; clear hk1)
  go_ret
  exact ⟨rfl, H1.out⟩
set_option maxHeartbeats 1000000 in
theorem crcMore_bigb (ao bo : Option Addr) (ca cb : Nat) (la lb : List Nat) (W : World) (HN : Nibs W) (_hl : la.length ≤ 9223372036854775807) (_hl2 : lb.length ≤ 9223372036854775807) (c1 : decide ((3000 : Int) < (la.length : Int)) = false) (c2 : decide ((3000 : Int) < (lb.length : Int)) = true) :
    Calls Tryd.prog 4 #[.slice ao la.length ca, .slice bo lb.length cb] W fun e w' => e = .returned (.bool true) ∧ Kept (fun _ => False) W w' := by
  have HA := Lib.hid (awake_any W HN)
  clear HN
  go_enter Tryd.func4, Tryd.ntmps4
  go_wp2_with (go_at_call 8; refine HA.out.mono ?_; rintro e w1 ⟨rfl, hk1⟩; have H1 := Lib.hid hk1; clear hk1)
  go_ret
  exact ⟨rfl, H1.out⟩

theorem crcMore_walk (ao : Option Addr) (len cap : Nat) (zs : List Int) (bo : Option Addr) (len2 cap2 : Nat) (zs2 : List Int) (W : World) (hrow : IsRow .u8 W ao len cap zs) (hrow2 : IsRow .u8 W bo len2 cap2 zs2) (HN : Nibs W) :
    Calls Tryd.prog 4 #[.slice ao len cap, .slice bo len2 cap2] W fun e w' => e = .returned (.bool true) ∧ Kept (fun _ => False) W w' := by
  obtain ⟨la, rfl, HA, hmx⟩ := hrow.row8
  obtain ⟨lb, rfl, HB, hmx2⟩ := hrow2.row8
  have hmx' : la.length ≤ 9223372036854775807 := by unfold maxLen at hmx; omega
  have hmx2' : lb.length ≤ 9223372036854775807 := by unfold maxLen at hmx2; omega
  by_cases h1 : (3000 : Int) < (la.length : Int)
  · exact crcMore_biga ao bo cap cap2 la lb W HN hmx' hmx2' (decide_eq_true h1)
  by_cases h2 : (3000 : Int) < (lb.length : Int)
  · exact crcMore_bigb ao bo cap cap2 la lb W HN hmx' hmx2' (decide_eq_false h1) (decide_eq_true h2)
  exact crcMore_good ao bo cap cap2 la lb W HA HB HN (by omega) (by omega)
end Go.Proofs.YtanhdjdojeoodaaDoor
