/- Layer 5: the walk of 'NumTurns'. -/
import Derived.Test.YthdlfjpdifipkaaN2
import Derived.Test.YthdlfjpdifipkaaN3
import Derived.Deep.RegionWith
namespace Go.Proofs.Ythdlfjpdifipkaa
open Go.RowKit
theorem addI_range (a b : Int) : 0 ≤ addI a b ∧ addI a b ≤ 18446744073709551615 := by
  unfold addI
  cases h : floatBits .add .f64 a.toNat b.toNat with
  | none => simp
  | some r => exact canonI_range r (by omega) (bits_lt h)

set_option maxHeartbeats 1000000 in
theorem numTurns_walk (a b : Int) (w : World) (ha : 0 ≤ a ∧ a ≤ 18446744073709551615) (hb : 0 ≤ b ∧ b ≤ 18446744073709551615) :
    Calls Try.prog 5 #[.int .u64 a, .int .u64 b] w fun e w' => e = .returned (.bool true) ∧ Kept (fun _ => False) w w' := by
  obtain ⟨a0, a1⟩ := ha
  obtain ⟨b0, b1⟩ := hb
  have hc := Lib.hid (addI_comm b a)
  have hm := Lib.hid (subI_minus a b b0 b1)
  have hx := xor_sign b b0 b1
  have hs := Lib.hid (subI_self a a0 a1)
  have odd : oddI b = true ∨ oddI b = false := by cases oddI b <;> simp
  have fin : finI a = true ∨ finI a = false := by cases finI a <;> simp
  rcases odd with ho | ho <;> rcases fin with hf | hf
  all_goals
    have hs2 := Lib.hid hs.out
    rw [hf] at hs2
    go_enter Try.func5, Try.ntmps5
    go_wp2_with fail
    refine (awake5_any w).mono ?_
    rintro e w' ⟨rfl, q, rfl⟩
    go_wp2_with fail
    refine (add_any a b _).mono ?_
    rintro e w' ⟨rfl, q1, rfl⟩
    go_wp2_with fail
    refine (add_any b a _).mono ?_
    rw [hc.out]
    rintro e w' ⟨rfl, q2, rfl⟩
    go_wp2_with (first | (go_at_call 8; refine (odd_any b b0 b1 _).mono ?_; rw [ho]; rintro e w' ⟨rfl, rfl⟩) | (go_at_call 10; refine (finite_any a a0 a1 _).mono ?_; rw [hf]; rintro e w' ⟨rfl, rfl⟩) | (go_at_call_of 16 (Value.int .u64 b); refine (sub_any a b _).mono ?_; rw [hm.out]; rintro e w' ⟨rfl, q3, rfl⟩) | (go_at_call 14; refine (add_any a (minusI b) _).mono ?_; rintro e w' ⟨rfl, q4, rfl⟩) | (go_at_call 16; refine (sub_any a a _).mono ?_; rw [hs2.out]; rintro e w' ⟨rfl, q5, rfl⟩))
    go_ret
    exact ⟨rfl, (Kept.refl _ _).drewN _⟩
end Go.Proofs.Ythdlfjpdifipkaa
