/- Layer 12: a point that came in. -/
import Derived.Test.YteflepcmblacaaaGreatDoorI14
import Derived.Lib.SmallJoins
import Derived.Deep.Strs
import Derived.Deep.Slices
import Derived.Deep.Fields
import Derived.ChangeSame
namespace Go.Proofs.YteflepcmblacaaaGreatDoor
open Go.ChangeShapes Go.WideShapes Go.ChangeAt Go.RowKit

theorem array6 {α : Type} {cs : Array α} (h : cs.size = 6) : ∃ c0 c1 c2 c3 c4 c5, cs = #[c0, c1, c2, c3, c4, c5] := by
  obtain ⟨l⟩ := cs
  match l, h with
  | [c0, c1, c2, c3, c4, c5], _ => exact ⟨c0, c1, c2, c3, c4, c5, rfl⟩
/-- A side that came in. -/
structure SideIn (W : World) (o : Int) (l : List Nat) (v : Value) : Prop where
  io : I64 o
  at_ : SlAt W v (uvals l)
  lt : ∀ x ∈ l, x < 18446744073709551616
  cap : ∀ a n c, v = .slice a n c → n ≤ c
theorem side_cells {H : Type} {enc : TypeId × Value → H} {W : World} {sp n : Nat} {c0 c1 : Value} {y : DataW H × List MemPlace} (h : DataW.trod enc Tryz.prog W sp (fun _ => true) true n 26 [c0, c1] = some y) :
    ∃ o l, c0 = .int .i64 o ∧ SideIn W o l c1 := by
  obtain ⟨y0, y1, m, _, _, h0, h1⟩ := trod_struct2 Tryz.underlying26 h
  have k0 : Tryz.prog.cellsOf 3 = 1 := by kernel_rfl
  have k1 : Tryz.prog.cellsOf 24 = 1 := by kernel_rfl
  simp only [k0, k1, List.drop_zero, List.drop_succ_cons, List.take_succ_cons, List.take_zero] at h0 h1
  cases m with
  | zero => simp [DataW.trod] at h0
  | succ m =>
  obtain ⟨o, e0, _, w0⟩ := DataW.trod_int Tryz.underlying3 h0
  obtain ⟨a, len, cap, e1⟩ := Go.Joins.slice_form Tryz.underlying24 h1
  injection e0 with e0 _
  injection e1 with e1 _
  subst e0 e1
  obtain ⟨zs, hr⟩ := isRow_of (d := y1.1) (p := y1.2) Tryz.underlying24 Tryz.underlying23 (by kernel_rfl) ⟨m + 1, by simpa [Value.cells] using h1⟩
  obtain ⟨l, hl, hlt, hat⟩ := hr.slAtN 18446744073709551616 (fun x hx => by have := bd_u64 hx; omega)
  refine ⟨o, l, rfl, ?_, hat, hlt, ?_⟩
  · have := bd_i64 w0; unfold I64; omega
  · intro a' n' c' e
    injection e with e1 e2 e3
    subst e2 e3
    rcases hr with ⟨_, h2, h3, _⟩ | ⟨_, _, h2, _⟩
    · omega
    · exact h2

theorem array17 {α : Type} {cs : Array α} (h : cs.size = 17) : ∃ c0 c1 c2 c3 c4 c5 c6 c7 c8 c9 d0 d1 d2 d3 d4 d5 d6, cs = #[c0, c1, c2, c3, c4, c5, c6, c7, c8, c9, d0, d1, d2, d3, d4, d5, d6] := by
  obtain ⟨l⟩ := cs
  match l, h with
  | [c0, c1, c2, c3, c4, c5, c6, c7, c8, c9, d0, d1, d2, d3, d4, d5, d6], _ => exact ⟨c0, c1, c2, c3, c4, c5, c6, c7, c8, c9, d0, d1, d2, d3, d4, d5, d6, rfl⟩
theorem trod_struct12 {P : Program} {H : Type} {enc : TypeId × Value → H} {w : World} {base : Nat} {spare : Nat → Bool} {held : Bool} {t : TypeId} {f0 f1 f2 f3 f4 f5 f6 f7 f8 f9 f10 f11 : Field} {fuel : Nat} {cs : List Value} {x : DataW H × List MemPlace} (ht : P.underlying t = some (.struct #[f0, f1, f2, f3, f4, f5, f6, f7, f8, f9, f10, f11])) (h : DataW.trod enc P w base spare held fuel t cs = some x) :
    ∃ y0 y1 y2 y3 y4 y5 y6 y7 y8 y9 y10 y11 n, DataW.trod enc P w base spare held n f0.type ((cs.drop f0.offset).take (P.cellsOf f0.type)) = some y0 ∧ DataW.trod enc P w base spare held n f1.type ((cs.drop f1.offset).take (P.cellsOf f1.type)) = some y1 ∧ DataW.trod enc P w base spare held n f2.type ((cs.drop f2.offset).take (P.cellsOf f2.type)) = some y2 ∧ DataW.trod enc P w base spare held n f3.type ((cs.drop f3.offset).take (P.cellsOf f3.type)) = some y3 ∧ DataW.trod enc P w base spare held n f4.type ((cs.drop f4.offset).take (P.cellsOf f4.type)) = some y4 ∧ DataW.trod enc P w base spare held n f5.type ((cs.drop f5.offset).take (P.cellsOf f5.type)) = some y5 ∧ DataW.trod enc P w base spare held n f6.type ((cs.drop f6.offset).take (P.cellsOf f6.type)) = some y6 ∧ DataW.trod enc P w base spare held n f7.type ((cs.drop f7.offset).take (P.cellsOf f7.type)) = some y7 ∧ DataW.trod enc P w base spare held n f8.type ((cs.drop f8.offset).take (P.cellsOf f8.type)) = some y8 ∧ DataW.trod enc P w base spare held n f9.type ((cs.drop f9.offset).take (P.cellsOf f9.type)) = some y9 ∧ DataW.trod enc P w base spare held n f10.type ((cs.drop f10.offset).take (P.cellsOf f10.type)) = some y10 ∧ DataW.trod enc P w base spare held n f11.type ((cs.drop f11.offset).take (P.cellsOf f11.type)) = some y11 := by
  obtain ⟨xs, n, _, rfl, hl, hlen, hf⟩ := DataW.trod_struct ht h
  match xs, hlen with
  | [y0, y1, y2, y3, y4, y5, y6, y7, y8, y9, y10, y11], _ => exact ⟨y0, y1, y2, y3, y4, y5, y6, y7, y8, y9, y10, y11, n, by simpa using hf 0 f0 rfl, by simpa using hf 1 f1 rfl, by simpa using hf 2 f2 rfl, by simpa using hf 3 f3 rfl, by simpa using hf 4 f4 rfl, by simpa using hf 5 f5 rfl, by simpa using hf 6 f6 rfl, by simpa using hf 7 f7 rfl, by simpa using hf 8 f8 rfl, by simpa using hf 9 f9 rfl, by simpa using hf 10 f10 rfl, by simpa using hf 11 f11 rfl⟩
/-- A histogram's cells that came in. -/
theorem hist_cells {H : Type} {enc : TypeId × Value → H} {W : World} {sp n : Nat} {c0 c1 c2 c3 c4 c5 : Value} {y : DataW H × List MemPlace} (hf : DataW.trod enc Tryz.prog W sp (fun _ => true) true n 28 [c0, c1, c2, c3, c4, c5] = some y) :
    ∃ (h : HistV), [c0, c1, c2, c3, c4, c5] = [.int .i64 h.sc, .int .u64 (h.ze : Int), .int .i64 h.po, c3, .int .i64 h.no, c5] ∧ HistAt W h c3 c5 ∧ h.ok := by
  obtain ⟨y0, y1, y2, y3, m, _, _, h0, h1, h2, h3⟩ := Go.Joins.trod_struct4 Tryz.underlying28 (cs := [c0, c1, c2, c3, c4, c5]) hf
  have k0 : Tryz.prog.cellsOf 3 = 1 := by kernel_rfl
  have k1 : Tryz.prog.cellsOf 23 = 1 := by kernel_rfl
  have k2 : Tryz.prog.cellsOf 26 = 2 := by kernel_rfl
  simp only [k0, k1, k2, List.drop_zero, List.drop_succ_cons, List.take_succ_cons, List.take_zero] at h0 h1 h2 h3
  cases m with
  | zero => simp [DataW.trod] at h0
  | succ m =>
  obtain ⟨sc, e0, _, w0⟩ := DataW.trod_int Tryz.underlying3 h0
  obtain ⟨ze, e1, _, w1⟩ := DataW.trod_int Tryz.underlying23 h1
  injection e0 with e0 _
  injection e1 with e1 _
  subst e0 e1
  obtain ⟨po, pl, rfl, hp⟩ := side_cells h2
  obtain ⟨no, nl, rfl, hn⟩ := side_cells h3
  have b0' := bd_i64 w0
  have b1' := bd_u64 w1
  refine ⟨⟨sc, ze.toNat, po, pl, no, nl⟩, ?_, ⟨hp.at_, hn.at_⟩, ⟨by simp only; omega, by simp only; omega, hp.io, hp.lt, hn.io, hn.lt⟩⟩
  simp only
  rw [show ((ze.toNat : Nat) : Int) = ze by omega]
set_option maxRecDepth 100000 in
theorem pnt_open {H : Type} {enc : TypeId × Value → H} {W : World} {sp b0 : Nat} {r : Reach} {v : Value} {d : DataW H} {p : List MemPlace} (hv : Value.okWide Tryz.prog W r b0 30 v) (h : DataW.Trod enc Tryz.prog W sp (fun _ => true) true 30 v d p) :
    ∃ (x : Pnt) (aa pa na : Option Addr) (ac pc nc : Nat), v = pntV x (.slice aa x.L.length ac) (.slice pa x.h.pl.length pc) (.slice na x.h.nl.length nc) ∧ PntAt W x aa ac (.slice pa x.h.pl.length pc) (.slice na x.h.nl.length nc) ∧ x.ok ∧ x.L.length ≤ 9223372036854775807 := by
  obtain ⟨cs, rfl, hsz⟩ := okWide_struct Tryz.underlying30 hv
  have k17 : Tryz.prog.cellsOf 30 = 17 := by kernel_rfl
  obtain ⟨c0, c1, c2, c3, c4, c5, c6, c7, c8, c9, d0, d1, d2, d3, d4, d5, d6, rfl⟩ := array17 (hsz.trans k17)
  obtain ⟨fuel, hf⟩ := h
  obtain ⟨y0, y1, y2, y3, y4, y5, y6, y7, y8, y9, y10, y11, n, g0, g1, g2, g3, g4, g5, g6, g7, g8, g9, g10, g11⟩ := trod_struct12 Tryz.underlying30 (cs := [c0, c1, c2, c3, c4, c5, c6, c7, c8, c9, d0, d1, d2, d3, d4, d5, d6]) (by simpa [Value.cells] using hf)
  have ks : Tryz.prog.cellsOf 9 = 1 := by kernel_rfl
  have kp : Tryz.prog.cellsOf 22 = 1 := by kernel_rfl
  have k0 : Tryz.prog.cellsOf 3 = 1 := by kernel_rfl
  have kb : Tryz.prog.cellsOf 4 = 1 := by kernel_rfl
  have k1 : Tryz.prog.cellsOf 23 = 1 := by kernel_rfl
  have k6 : Tryz.prog.cellsOf 28 = 6 := by kernel_rfl
  simp only [ks, kp, k0, kb, k1, k6, List.drop_zero, List.drop_succ_cons, List.take_succ_cons, List.take_zero] at g0 g1 g2 g3 g4 g5 g6 g7 g8 g9 g10 g11
  obtain ⟨nm, e0, _, _⟩ := DataW.trod_string Tryz.underlying9 g0
  obtain ⟨aa, al, ac, e1⟩ := Go.Joins.slice_form Tryz.underlying22 g1
  injection e0 with e0 _
  injection e1 with e1 _
  subst e0 e1
  obtain ⟨a2, rfl, w2⟩ := trod_i64 Tryz.underlying3 g2
  obtain ⟨a3, rfl, w3⟩ := trod_i64 Tryz.underlying3 g3
  obtain ⟨b4, e4, _⟩ := DataW.trod_bool Tryz.underlying4 g4
  injection e4 with e4 _
  subst e4
  obtain ⟨a5, rfl, w5⟩ := trod_i64 Tryz.underlying3 g5
  obtain ⟨a6, rfl, w6⟩ := trod_i64 Tryz.underlying3 g6
  obtain ⟨a7, rfl, w7⟩ := trod_i64 Tryz.underlying3 g7
  obtain ⟨a8, rfl, w8⟩ := trod_i64 Tryz.underlying23 g8
  obtain ⟨a9, rfl, w9⟩ := trod_i64 Tryz.underlying23 g9
  obtain ⟨hh, eh, hat, hok⟩ := hist_cells g10
  obtain ⟨a11, rfl, w11⟩ := trod_i64 Tryz.underlying3 g11
  simp only [List.cons.injEq, and_true, true_and] at eh
  obtain ⟨rfl, rfl, rfl, rfl⟩ := eh
  obtain ⟨L, hL, hps, hc, hm⟩ := pairs_of (d := y1.1) (p := y1.2) ⟨n, by simpa [Value.cells] using g1⟩
  subst hL
  obtain ⟨⟨pa, pc, rfl⟩, na, nc, rfl⟩ := hat.sl
  exact ⟨⟨nm, L, a2, a3, b4, a5, a6, a7, a8, a9, hh, a11⟩, aa, pa, na, ac, pc, nc, rfl, ⟨hps.at_, hc, hat⟩, ⟨bd_i64 w2, bd_i64 w3, bd_i64 w5, bd_i64 w6, bd_i64 w7, bd_u64 w8, bd_u64 w9, hok, bd_i64 w11⟩, hm⟩
end Go.Proofs.YteflepcmblacaaaGreatDoor
