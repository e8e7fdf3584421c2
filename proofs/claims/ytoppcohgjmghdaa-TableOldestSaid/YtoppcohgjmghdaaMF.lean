/- Layer 14 is awake. -/
import Derived.Test.YtoppcohgjmghdaaME
namespace Go.Proofs.Ytoppcohgjmghdaa
open Go.RowKit
attribute [local go_sem ↓] Go.wp_at_zero Go.wp_at_succ

def nmA : ByteArray := { data := #[97] }
def nmB : ByteArray := { data := #[98] }
def awM1 : List (ByteArray × Th) := [(nmA, (1, 0))]
def awM2 : List (ByteArray × Th) := [(nmA, (3, 1))]
theorem aw_p1 : mayT 1 [] nmA = true := by unfold mayT; rw [show (max 0 (wrap64 (1 - (([] : List (ByteArray × Th)).length : Int)))) = 1 by unfold wrap64; rfl]; decide
theorem aw_m1 : putT [] nmA 1 0 = awM1 := by rfl
theorem aw_p2 : mayT 1 awM1 nmB = false := by unfold mayT; rw [show (max 0 (wrap64 (1 - (awM1.length : Int)))) = 0 by unfold wrap64 awM1; rfl]; decide
theorem aw_p3 : mayT 1 awM1 nmA = true := by unfold mayT; rw [show (getM awM1 nmA).isSome = true by decide]; rfl
theorem aw_m2 : putT awM1 nmA 3 1 = awM2 := by decide
theorem aw_g : atT awM2 nmA = (3, 1) ∧ (getM awM2 nmA).isSome = true := by decide
set_option maxHeartbeats 4000000 in
set_option maxRecDepth 100000 in
theorem awake14_any (w : World) : Calls Try.prog 5 #[] w fun e w' => e = .returned (.bool true) ∧ Kept (fun _ => False) w w' := by
  have HN := Lib.hid (tNew_any 1 (by unfold I64; omega) w)
  have HSA : Hid (nmA.size ≤ maxLen) := Lib.hid (by unfold maxLen nmA; decide)
  have HSB : Hid (nmB.size ≤ maxLen) := Lib.hid (by unfold maxLen nmB; decide)
  go_enter Try.func5, Try.ntmps5
  go_wp2_with fail
  refine HN.out.mono ?_
  rintro e w1 ⟨tb, mb, rfl, h1, k1⟩
  have HK1 := Lib.hid k1
  have HB := Lib.hid h1.base
  have HP1 := Lib.hid (tPut_any w.heap.size tb mb [] [] 1 0 (by omega) nmA HSA.out 1 w1 h1)
  rw [aw_p1, aw_m1, show nmA = { data := #[97] } from rfl] at HP1
  clear h1 k1
  go_wp2_with fail
  refine HP1.out.mono ?_
  rintro e w2 ⟨rfl, k2, h2, _⟩
  have h2 := h2 trivial
  have HF : Hid (∀ j, tfoot tb mb j → w.heap.size ≤ j) := Lib.hid (fun j e => by rcases e with e | e <;> rw [e]; (· exact HB.out.1); (· exact HB.out.2))
  have HK2 := Lib.hid (HK1.out.newer k2 HF.out)
  have HP2 := Lib.hid (tPut_any w.heap.size tb mb _ awM1 1 1 (by omega) nmB HSB.out 2 w2 h2)
  rw [aw_p2, show nmB = { data := #[98] } from rfl] at HP2
  clear h2 k2
  go_wp2_with fail
  refine HP2.out.mono ?_
  rintro e w3 ⟨rfl, k3, _, h3⟩
  have h3 := h3 trivial
  have HK3 := Lib.hid (HK2.out.newer k3 HF.out)
  have HP3 := Lib.hid (tPut_any w.heap.size tb mb _ awM1 1 1 (by omega) nmA HSA.out 3 w3 h3)
  rw [aw_p3, aw_m2, show nmA = { data := #[97] } from rfl] at HP3
  clear h3 k3
  go_wp2_with fail
  refine HP3.out.mono ?_
  rintro e w4 ⟨rfl, k4, h4, _⟩
  have h4 := h4 trivial
  have HK4 := Lib.hid (HK3.out.newer k4 HF.out)
  have HG := Lib.hid (tGet_any w.heap.size tb mb _ awM2 1 2 nmA HSA.out w4 h4)
  rw [aw_g.1, aw_g.2, show nmA = { data := #[97] } from rfl] at HG
  have HO := Lib.hid (fun w' (k : Kept (fun _ => False) w4 w') => tOldest_any w.heap.size tb mb _ awM2 1 2 w' (h4.kept k (fun x => x) (fun x => x)))
  rw [show oldT awM2 = { data := #[97] } from rfl, show decide (0 < awM2.length) = true from rfl] at HO
  clear h4 k4
  go_wp2_with fail
  refine HG.out.mono ?_
  rintro e w5 ⟨rfl, k5⟩
  have HK5 := Lib.hid k5
  clear k5
  go_wp2_with fail
  refine (HO.out w5 HK5.out).mono ?_
  rintro e w6 ⟨rfl, k6⟩
  have HK6 := Lib.hid ((HK4.out.trans HK5.out).trans k6)
  clear k6
  go_wp2
  go_ret
  exact ⟨rfl, HK6.out⟩
end Go.Proofs.Ytoppcohgjmghdaa
