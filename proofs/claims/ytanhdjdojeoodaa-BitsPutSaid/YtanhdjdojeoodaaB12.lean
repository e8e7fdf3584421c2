/- Layer 1: the walk of 'BitsBack', whatever comes. -/
import Derived.Test.YtanhdjdojeoodaaB11
namespace Go.Proofs.Ytanhdjdojeoodaa
open Go.RowKit
attribute [local go_sem ↓] Go.wp_at_zero Go.wp_at_succ

set_option maxHeartbeats 1000000 in
theorem bitsBack_walk (ao : Option Addr) (la ca : Nat) (z0 : List Int) (so : Option Addr) (ls cs : Nat) (z1 : List Int) (W : World) (h0 : IsRow .u64 W ao la ca z0) (h1 : IsRow .i64 W so ls cs z1) :
    Calls Try.prog 6 #[.slice ao la ca, .slice so ls cs] W fun e w' => e = .returned (.bool true) ∧ Kept (fun _ => False) W w' := by
  obtain ⟨l, rfl, hx, hv⟩ := h0.slAtN 18446744073709551616 wf_u64
  obtain ⟨ss, rfl, hz, hs⟩ := h1.slAtI
  by_cases hl : l.length ≤ 100
  · by_cases hls : l.length ≤ ss.length
    · exact bitsBack_walk0 ao so ca cs l ss W hv hs hl hls hx (fun z h => bd_i64 (hz z h))
    · have HA := Lib.hid (awake1_any W)
      have q1 : ¬ (100 : Int) < (l.length : Int) := by omega
      have q2 : (ss.length : Int) < (l.length : Int) := by omega
      clear h0 h1 hx hv hz hs
      go_enter Try.func6, Try.ntmps6
      go_wp2_with fail
      refine HA.out.mono ?_
      rintro e w1 ⟨rfl, K1⟩
      go_wp2
      go_ret
      exact ⟨rfl, K1⟩
  · have HA := Lib.hid (awake1_any W)
    have q1 : (100 : Int) < (l.length : Int) := by omega
    clear h0 h1 hx hv hz hs
    go_enter Try.func6, Try.ntmps6
    go_wp2_with fail
    refine HA.out.mono ?_
    rintro e w1 ⟨rfl, K1⟩
    go_wp2
    go_ret
    exact ⟨rfl, K1⟩
end Go.Proofs.Ytanhdjdojeoodaa
