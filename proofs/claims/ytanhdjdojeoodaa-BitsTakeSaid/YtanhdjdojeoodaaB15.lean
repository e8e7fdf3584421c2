/- Layer 1: the walk of 'BitsTake', whatever comes. -/
import Derived.Test.YtanhdjdojeoodaaB13
namespace Go.Proofs.Ytanhdjdojeoodaa
open Go.RowKit
attribute [local go_sem ↓] Go.wp_at_zero Go.wp_at_succ

set_option maxHeartbeats 1000000 in
set_option maxRecDepth 100000 in
theorem bitsTake_walk (ao : Option Addr) (la ca : Nat) (z0 : List Int) (so : Option Addr) (ls cs : Nat) (z1 : List Int) (W : World) (h0 : IsRow .u8 W ao la ca z0) (h1 : IsRow .i64 W so ls cs z1) :
    Calls Try.prog 5 #[.slice ao la ca, .slice so ls cs] W fun e w' => e = .returned (.bool true) ∧ Kept (fun _ => False) W w' := by
  obtain ⟨l, rfl, hx, hv⟩ := h0.slAt8
  obtain ⟨ss, rfl, hz, hs⟩ := h1.slAtI
  by_cases hl : l.length ≤ 200
  · by_cases hls : ss.length ≤ 100
    · exact bitsTake_walk0 ao so ca cs l ss W hv hs hl hls hx (fun z h => bd_i64 (hz z h))
    · have HA := Lib.hid (awake1_any W)
      have q1 : ¬ (200 : Int) < (l.length : Int) := by omega
      have q2 : (100 : Int) < (ss.length : Int) := by omega
      clear h0 h1 hx hv hz hs
      go_enter Try.func5, Try.ntmps5
      go_wp2_with fail
      refine HA.out.mono ?_
      rintro e w1 ⟨rfl, K1⟩
      go_wp2
      go_ret
      exact ⟨rfl, K1⟩
  · have HA := Lib.hid (awake1_any W)
    have q1 : (200 : Int) < (l.length : Int) := by omega
    clear h0 h1 hx hv hz hs
    go_enter Try.func5, Try.ntmps5
    go_wp2_with fail
    refine HA.out.mono ?_
    rintro e w1 ⟨rfl, K1⟩
    go_wp2
    go_ret
    exact ⟨rfl, K1⟩
end Go.Proofs.Ytanhdjdojeoodaa
