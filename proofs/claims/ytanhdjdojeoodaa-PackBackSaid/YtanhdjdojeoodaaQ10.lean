/- Layer 2: the walk of 'PackBack', whatever comes. -/
import Derived.Test.YtanhdjdojeoodaaQ9
namespace Go.Proofs.Ytanhdjdojeoodaa
open Go.RowKit
attribute [local go_sem ↓] Go.wp_at_zero Go.wp_at_succ

set_option maxHeartbeats 1000000 in
set_option maxRecDepth 100000 in
theorem packBack_walk (ao : Option Addr) (n ca : Nat) (rs : List WRec) (W : World) (hn : rs.length = n) (hn2 : n ≤ 9223372036854775807) (hr : WordsAt W ao rs) :
    Calls Try.prog 11 #[.slice ao n ca] W fun e w' => e = .returned (.bool true) ∧ Kept (fun _ => False) W w' := by
  subst hn
  by_cases hf : fewW rs = true
  · exact packBack_walk0 ao ca rs W hr hf
  · have hf2 : fewW rs = false := by simpa using hf
    have HA := Lib.hid (awake2_any W)
    have HS := Lib.hid fun w1 (K : Kept (fun _ => False) W w1) => some2_any ao ca rs w1 (hr.kept K) hn2
    have HF := Lib.hid hf2
    clear hf hf2 hr
    go_enter Try.func11, Try.ntmps11
    go_wp2_with fail
    refine HA.out.mono ?_
    rintro e w1 ⟨rfl, K1⟩
    go_wp2_with fail
    refine (HS.out w1 K1).mono ?_
    rw [HF.out]
    rintro e w' ⟨rfl, rfl⟩
    go_wp2
    go_ret
    exact ⟨rfl, K1⟩
end Go.Proofs.Ytanhdjdojeoodaa
