/- Layer 1: the walk of 'BitsPut', whatever comes. -/
import Derived.Test.YtanhdjdojeoodaaB20
namespace Go.Proofs.Ytanhdjdojeoodaa
open Go.RowKit
attribute [local go_sem ↓] Go.wp_at_zero Go.wp_at_succ

set_option maxHeartbeats 1000000 in
set_option maxRecDepth 100000 in
theorem bitsPut_walk (ao : Option Addr) (n ca : Nat) (rs : List PutRec) (W : World) (hn : rs.length = n) (hn2 : n ≤ 9223372036854775807) (hr : RecsAt W ao rs) :
    Calls Try.prog 3 #[.slice ao n ca] W fun e w' => e = .returned (.bool true) ∧ Kept (fun _ => False) W w' := by
  subst hn
  by_cases hf : fewR rs = true
  · exact bitsPut_walk0 ao ca rs W hr hf
  · have hf2 : fewR rs = false := by simpa using hf
    have HA := Lib.hid (awake1_any W)
    have HS := Lib.hid fun w1 (K : Kept (fun _ => False) W w1) => some_any ao ca rs w1 (hr.kept K) hn2
    have HF := Lib.hid hf2
    clear hf hf2 hr
    go_enter Try.func3, Try.ntmps3
    go_wp2_with fail
    refine HA.out.mono ?_
    rintro e w1 ⟨rfl, K1⟩
    go_wp2_with fail
    refine (HS.out w1 K1).mono ?_
    rw [HF.out]
    rintro e w' ⟨rfl, rfl⟩
    go_wp2
    go_ret
    exact ⟨rfl, K1⟩
end Go.Proofs.Ytanhdjdojeoodaa
