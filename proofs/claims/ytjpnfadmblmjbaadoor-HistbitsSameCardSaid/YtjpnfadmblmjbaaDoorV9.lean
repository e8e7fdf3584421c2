/- package vary: PutInt. -/
import Derived.Test.YtjpnfadmblmjbaaDoorV7
import Derived.Test.YtjpnfadmblmjbaaDoorV8
namespace Go.Proofs.YtjpnfadmblmjbaaDoor
open Go.RowKit
attribute [local go_sem ↓] Go.wp_at_zero Go.wp_at_succ

set_option maxHeartbeats 1000000 in
theorem varyPutInt_any (B p : Nat) (v : Value) (bs : List Bool) (a : Int) (z : Nat) (w : World) (HW : BwAt w B p v bs) (hB0 : 0 < B) (hB : B ≤ w.heap.size) (h0 : -9223372036854775808 ≤ a) (h1 : a ≤ 9223372036854775807) (hz : zigI a = (z : Int)) (hzl : z < 18446744073709551616) (hl : bs.length ≤ 900000000) (HT : ClassTab w) :
    Calls Tryd.prog 13 #[.pointer (some ⟨p, 0, none⟩), .int .i64 a] w fun e w' => e = .returned (.tuple #[]) ∧ BwTo w w' B p v (bs ++ smallB z) := by
  have HZ := Lib.hid (zig_any a h0 h1 w)
  rw [hz] at HZ
  have HP := Lib.hid (varyPut_any B p v bs z w HW hB0 hB hzl hl HT)
  clear HW HT hz
  go_enter Tryd.func13, Tryd.ntmps13
  go_wp2_with (first
    | (go_at_call 49; refine HZ.out.mono ?_; rintro e w' ⟨rfl, rfl⟩)
    | (go_at_call 12; refine HP.out.mono ?_; rintro e w2 ⟨rfl, hto⟩; have HTO := Lib.hid hto; clear hto))
  go_end0
  exact ⟨rfl, HTO.out⟩
end Go.Proofs.YtjpnfadmblmjbaaDoor
