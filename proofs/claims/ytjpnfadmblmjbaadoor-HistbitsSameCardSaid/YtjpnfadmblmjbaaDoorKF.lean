/- A histogram, or a side, that came in: opened. -/
import Derived.Test.YtjpnfadmblmjbaaDoorHX
import Derived.Test.YtjpnfadmblmjbaaDoorL3
import Derived.Lib.SmallJoins
namespace Go.Proofs.YtjpnfadmblmjbaaDoor
open Go.ChangeShapes Go.WideShapes Go.ChangeAt Go.RowKit

theorem array6 {α : Type} {cs : Array α} (h : cs.size = 6) : ∃ c0 c1 c2 c3 c4 c5, cs = #[c0, c1, c2, c3, c4, c5] := by
  obtain ⟨l⟩ := cs
  match l, h with
  | [c0, c1, c2, c3, c4, c5], _ => exact ⟨c0, c1, c2, c3, c4, c5, rfl⟩
/-- A side that came in. -/
structure SideIn (W : World) (o : Int) (l : List Nat) (v : Value) : Prop where
  io : I64 o
  at_ : SlAt W v (uvals l)
  lt : ∀ x ∈ l, x < 18446744073709551616
  cap : ∀ a n c, v = .slice a n c → n ≤ c
theorem side_cells {H : Type} {enc : TypeId × Value → H} {W : World} {sp n : Nat} {c0 c1 : Value} {y : DataW H × List MemPlace} (h : DataW.trod enc Tryd.prog W sp (fun _ => true) true n 60 [c0, c1] = some y) :
    ∃ o l, c0 = .int .i64 o ∧ SideIn W o l c1 := by
  obtain ⟨y0, y1, m, _, _, h0, h1⟩ := trod_struct2 Tryd.underlying60 h
  have k0 : Tryd.prog.cellsOf 3 = 1 := by kernel_rfl
  have k1 : Tryd.prog.cellsOf 22 = 1 := by kernel_rfl
  simp only [k0, k1, List.drop_zero, List.drop_succ_cons, List.take_succ_cons, List.take_zero] at h0 h1
  cases m with
  | zero => simp [DataW.trod] at h0
  | succ m =>
  obtain ⟨o, e0, _, w0⟩ := DataW.trod_int Tryd.underlying3 h0
  obtain ⟨a, len, cap, e1⟩ := Go.Joins.slice_form Tryd.underlying22 h1
  injection e0 with e0 _
  injection e1 with e1 _
  subst e0 e1
  obtain ⟨zs, hr⟩ := isRow_of (d := y1.1) (p := y1.2) Tryd.underlying22 Tryd.underlying28 (by kernel_rfl) ⟨m + 1, by simpa [Value.cells] using h1⟩
  obtain ⟨l, hl, hlt, hat⟩ := hr.slAtN 18446744073709551616 (fun x hx => by have := bd_u64 hx; omega)
  refine ⟨o, l, rfl, ?_, hat, hlt, ?_⟩
  · have := bd_i64 w0; unfold I64; omega
  · intro a' n' c' e
    injection e with e1 e2 e3
    subst e2 e3
    rcases hr with ⟨_, h2, h3, _⟩ | ⟨_, _, h2, _⟩
    · omega
    · exact h2

set_option maxRecDepth 100000 in
theorem side_open {H : Type} {enc : TypeId × Value → H} {W : World} {sp b0 : Nat} {r : Reach} {v : Value} {d : DataW H} {p : List MemPlace} (hv : Value.okWide Tryd.prog W r b0 60 v) (h : DataW.Trod enc Tryd.prog W sp (fun _ => true) true 60 v d p) :
    ∃ o l c1, v = .agg #[.int .i64 o, c1] ∧ SideIn W o l c1 := by
  obtain ⟨cs, rfl, hsz⟩ := okWide_struct Tryd.underlying60 hv
  have k2 : Tryd.prog.cellsOf 60 = 2 := by kernel_rfl
  obtain ⟨c0, c1, rfl⟩ := Go.Joins.array2 (hsz.trans k2)
  obtain ⟨fuel, hf⟩ := h
  obtain ⟨o, l, e, hs⟩ := side_cells (by simpa [Value.cells] using hf)
  exact ⟨o, l, c1, by rw [e], hs⟩

set_option maxRecDepth 100000 in
theorem hist_open {H : Type} {enc : TypeId × Value → H} {W : World} {sp b0 : Nat} {r : Reach} {v : Value} {d : DataW H} {p : List MemPlace} (hv : Value.okWide Tryd.prog W r b0 62 v) (h : DataW.Trod enc Tryd.prog W sp (fun _ => true) true 62 v d p) :
    ∃ x pv nv, v = histV x pv nv ∧ HistIn W x pv nv := by
  obtain ⟨cs, rfl, hsz⟩ := okWide_struct Tryd.underlying62 hv
  have k6 : Tryd.prog.cellsOf 62 = 6 := by kernel_rfl
  obtain ⟨c0, c1, c2, c3, c4, c5, rfl⟩ := array6 (hsz.trans k6)
  obtain ⟨fuel, hf⟩ := h
  obtain ⟨y0, y1, y2, y3, m, _, _, h0, h1, h2, h3⟩ := Go.Joins.trod_struct4 Tryd.underlying62 (cs := [c0, c1, c2, c3, c4, c5]) (by simpa [Value.cells] using hf)
  have k0 : Tryd.prog.cellsOf 3 = 1 := by kernel_rfl
  have k1 : Tryd.prog.cellsOf 28 = 1 := by kernel_rfl
  have k2 : Tryd.prog.cellsOf 60 = 2 := by kernel_rfl
  simp only [k0, k1, k2, List.drop_zero, List.drop_succ_cons, List.take_succ_cons, List.take_zero] at h0 h1 h2 h3
  cases m with
  | zero => simp [DataW.trod] at h0
  | succ m =>
  obtain ⟨sc, e0, _, w0⟩ := DataW.trod_int Tryd.underlying3 h0
  obtain ⟨ze, e1, _, w1⟩ := DataW.trod_int Tryd.underlying28 h1
  injection e0 with e0 _
  injection e1 with e1 _
  subst e0 e1
  obtain ⟨po, pl, rfl, hp⟩ := side_cells h2
  obtain ⟨no, nl, rfl, hn⟩ := side_cells h3
  have b0' := bd_i64 w0
  have b1' := bd_u64 w1
  refine ⟨⟨sc, ze.toNat, po, pl, no, nl⟩, c3, c5, ?_, ⟨hp.at_, hn.at_⟩, ⟨by simp only; omega, by simp only; omega, hp.io, hp.lt, hn.io, hn.lt⟩, hp.cap, hn.cap⟩
  unfold histV
  simp only
  rw [show ((ze.toNat : Nat) : Int) = ze by omega]
end Go.Proofs.YtjpnfadmblmjbaaDoor
