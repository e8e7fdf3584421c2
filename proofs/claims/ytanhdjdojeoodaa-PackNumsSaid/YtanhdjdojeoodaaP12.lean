/- The walk of 'PackNums', whatever comes. -/
import Derived.Test.YtanhdjdojeoodaaP11
namespace Go.Proofs.Ytanhdjdojeoodaa
theorem packNums_walk (a : Option Addr) (len cap : Nat) (zs : List Int) (w : World) (h : IsRow .u8 w a len cap zs) :
    Calls Try.prog 8 #[.slice a len cap] w fun e w' => e = .returned (.bool true) ∧ Kept (fun _ => False) w w' := by
  by_cases hlen : 60 < len
  · exact packNums_long a len cap w (by omega)
  · obtain ⟨l, rfl, hv, hc, hb⟩ := h.bytes
    exact packNums_short a cap l w hv hb (by omega) hc
end Go.Proofs.Ytanhdjdojeoodaa
