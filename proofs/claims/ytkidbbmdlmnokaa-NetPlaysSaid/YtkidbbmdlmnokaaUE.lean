/- A message that came in: opened. -/
import Derived.Test.YtkidbbmdlmnokaaNX
import Derived.Test.YtkidbbmdlmnokaaP10
import Derived.Test.YtkidbbmdlmnokaaL3
import Derived.Lib.SmallJoins
import Derived.Deep.Strs
namespace Go.Proofs.Ytkidbbmdlmnokaa
open Go.ChangeShapes Go.WideShapes Go.ChangeAt Go.RowKit

theorem msg_cells {H : Type} {enc : TypeId × Value → H} {W : World} {sp n : Nat} {c0 c1 c2 : Value} {y : DataW H × List MemPlace} (h : DataW.trod enc Try.prog W sp (fun _ => true) true n 29 [c0, c1, c2] = some y) :
    ∃ (ack : Bool) (hv : Int) (a : Option Addr) (m c : Nat) (b : List Int), c0 = .bool ack ∧ c1 = .int .i64 hv ∧ c2 = .slice a m c ∧ (-9223372036854775808 ≤ hv ∧ hv ≤ 9223372036854775807) ∧ m ≤ c ∧ (b.length = m ∧ SlAt W (.slice a m c) (u8s b) ∧ (∀ x ∈ b, 0 ≤ x ∧ x < 256)) := by
  obtain ⟨y0, y1, y2, m, _, _, h0, h1, h2⟩ := Go.Deep.trod_struct3 Try.underlying29 h
  have k0 : Try.prog.cellsOf 4 = 1 := by kernel_rfl
  have k1 : Try.prog.cellsOf 3 = 1 := by kernel_rfl
  have k2 : Try.prog.cellsOf 27 = 1 := by kernel_rfl
  simp only [k0, k1, k2, List.drop_zero, List.drop_succ_cons, List.take_succ_cons, List.take_zero] at h0 h1 h2
  cases m with
  | zero => simp [DataW.trod] at h0
  | succ m =>
  obtain ⟨ack, e0, _⟩ := DataW.trod_bool Try.underlying4 h0
  obtain ⟨hv, e1, _, w1⟩ := DataW.trod_int Try.underlying3 h1
  obtain ⟨a, len, cap, e2⟩ := Go.Joins.slice_form Try.underlying27 h2
  injection e0 with e0 _
  injection e1 with e1 _
  injection e2 with e2 _
  subst e0 e1 e2
  obtain ⟨zs, hr⟩ := isRow_of (d := y2.1) (p := y2.2) Try.underlying27 Try.underlying5 (by kernel_rfl) ⟨m + 1, by simpa [Value.cells] using h2⟩
  obtain ⟨l, hl, hs, hc, hb⟩ := hr.bytes
  refine ⟨ack, hv, a, len, cap, l, rfl, rfl, rfl, bd_i64 w1, hc, hl, ?_, hb⟩
  subst hl
  exact hs.slAt
set_option maxRecDepth 100000 in
theorem msg_open {H : Type} {enc : TypeId × Value → H} {W : World} {sp b0 : Nat} {r : Reach} {v : Value} {d : DataW H} {p : List MemPlace} (hv : Value.okWide Try.prog W r b0 29 v) (h : DataW.Trod enc Try.prog W sp (fun _ => true) true 29 v d p) :
    ∃ (ack : Bool) (hv : Int) (a : Option Addr) (n c : Nat) (b : List Int), v = .agg #[.bool ack, .int .i64 hv, .slice a n c] ∧ (b.length = n ∧ SlAt W (.slice a n c) (u8s b) ∧ (∀ x ∈ b, 0 ≤ x ∧ x < 256)) := by
  obtain ⟨cs, rfl, hsz⟩ := okWide_struct Try.underlying29 hv
  have k3 : Try.prog.cellsOf 29 = 3 := by kernel_rfl
  obtain ⟨c0, c1, c2, rfl⟩ := Go.Joins.array3 (hsz.trans k3)
  obtain ⟨fuel, hf⟩ := h
  obtain ⟨ack, hx, a, n, c, b, rfl, rfl, rfl, _, _, hb⟩ := msg_cells (by simpa [Value.cells] using hf)
  exact ⟨ack, hx, a, n, c, b, rfl, hb⟩
end Go.Proofs.Ytkidbbmdlmnokaa
