/- strings.IndexByte. -/
import Derived.Test.YtjbjfdmdicfjfaaSX
import Derived.Lib.Bytealg
import Derived.BigCall
import Derived.BigGuard
namespace Go.Proofs.Ytjbjfdmdicfjfaa
open Go.RowKit
attribute [local go_sem ↓] Go.wp_at_zero Go.wp_at_succ

/-- Where a byte is first; -1: nowhere. -/
def ixC (s : ByteArray) (c : Nat) : Int := Lib.indexByte s.toList (UInt8.ofNat c)
set_option maxHeartbeats 1000000 in
theorem ixByte_any (s : ByteArray) (c : Nat) (w : World) :
    Calls Try.prog 26 #[.string s, .int .u8 (c : Int)] w fun e w' => e = .returned (.int .i64 (ixC s c)) ∧ w = w' := by
  have hc : ((c : Int)).toNat.toUInt8 = UInt8.ofNat c := by simp
  go_enter Try.func26, Try.ntmps26
  go_wp2
  rw [run_callFunc_extern Try.func31 (by kernel_rfl) (by kernel_rfl) (by kernel_rfl) (e := Extern.BytealgIndexByte.indexByte) (by kernel_rfl), Lib.run_indexByteString]
  simp only [Result.andThen]
  rw [Oper.upon_value]
  go_wp2
  go_ret
  exact ⟨by unfold ixC; rw [ByteArray.toList_eq, ← hc]; rfl, rfl⟩
theorem sixByte_any (s : ByteArray) (c : Nat) (w : World) :
    Calls Try.prog 20 #[.string s, .int .u8 (c : Int)] w fun e w' => e = .returned (.int .i64 (ixC s c)) ∧ w = w' := by
  have HI := Lib.hid (ixByte_any s c)
  go_enter Try.func20, Try.ntmps20
  go_wp2_with fail
  refine (HI.out _).mono ?_
  rintro e w' ⟨rfl, rfl⟩
  go_wp2
  go_ret
  exact ⟨rfl, rfl⟩
end Go.Proofs.Ytjbjfdmdicfjfaa
