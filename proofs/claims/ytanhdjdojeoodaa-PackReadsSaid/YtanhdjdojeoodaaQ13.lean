/- Layer 2: the walk of 'PackReads', whatever comes. -/
import Derived.Test.YtanhdjdojeoodaaQ12
namespace Go.Proofs.Ytanhdjdojeoodaa
open Go.RowKit
attribute [local go_sem ↓] Go.wp_at_zero Go.wp_at_succ

set_option maxHeartbeats 1000000 in
set_option maxRecDepth 100000 in
theorem packReads_long (ab : Option Addr) (len cb : Nat) (v : Value) (W : World) (hlen : (300 : Int) < (len : Int)) :
    Calls Try.prog 9 #[.slice ab len cb, v] W fun e w' => e = .returned (.bool true) ∧ Kept (fun _ => False) W w' := by
  have HA := Lib.hid (awake2_any W)
  go_enter Try.func9, Try.ntmps9
  go_wp2_with fail
  refine HA.out.mono ?_
  rintro e w1 ⟨rfl, K1⟩
  go_wp2
  go_ret
  exact ⟨rfl, K1⟩

set_option maxHeartbeats 1000000 in
set_option maxRecDepth 100000 in
theorem packReads_many (ab : Option Addr) (len cb : Nat) (ao : Option Addr) (ca : Nat) (rs : List WRec) (W : World) (hlen : ¬ (300 : Int) < (len : Int)) (hn2 : rs.length ≤ 9223372036854775807) (hr : WordsAt W ao rs) (hf2 : fewW rs = false) :
    Calls Try.prog 9 #[.slice ab len cb, .slice ao rs.length ca] W fun e w' => e = .returned (.bool true) ∧ Kept (fun _ => False) W w' := by
  have HA := Lib.hid (awake2_any W)
  have HS := Lib.hid fun w1 (K : Kept (fun _ => False) W w1) => some2_any ao ca rs w1 (hr.kept K) hn2
  have HF := Lib.hid hf2
  clear hf2 hr
  go_enter Try.func9, Try.ntmps9
  go_wp2_with fail
  refine HA.out.mono ?_
  rintro e w1 ⟨rfl, K1⟩
  go_wp2_with fail
  refine (HS.out w1 K1).mono ?_
  rw [HF.out]
  rintro e w' ⟨rfl, rfl⟩
  go_wp2
  go_ret
  exact ⟨rfl, K1⟩

theorem packReads_walk (ab : Option Addr) (len cb : Nat) (zs : List Int) (ao : Option Addr) (n ca : Nat) (rs : List WRec) (W : World) (h : IsRow .u8 W ab len cb zs) (hn : rs.length = n) (hn2 : n ≤ 9223372036854775807) (hr : WordsAt W ao rs) :
    Calls Try.prog 9 #[.slice ab len cb, .slice ao n ca] W fun e w' => e = .returned (.bool true) ∧ Kept (fun _ => False) W w' := by
  subst hn
  by_cases hlen : 300 < len
  · exact packReads_long ab len cb _ W (by omega)
  · by_cases hf : fewW rs = true
    · obtain ⟨l, rfl, hv, hc, hb⟩ := h.bytes
      exact packReads_walk0 ab cb l ao ca rs W hv hb (by omega) hc hr hf
    · exact packReads_many ab len cb ao ca rs W (by omega) hn2 hr (by simpa using hf)
end Go.Proofs.Ytanhdjdojeoodaa
