/- Texts put together: Z28, Z29, ZT. -/
import Derived.Test.YtjpnfadmblmjbaaDoorZz12
import Derived.Test.YtjpnfadmblmjbaaDoorZz15
import Derived.Deep.Slices
import Derived.Deep.Fields
import Derived.ChangeSame
import Derived.Lib.SmallJoins
import Derived.Test.YtjpnfadmblmjbaaDoorRows
import Derived.Test.YtjpnfadmblmjbaaDoorZz4
import Derived.Test.YtjpnfadmblmjbaaDoorZz1
import Derived.Lib.LaidTab
import Derived.LaidMore
import Derived.LaidLaws
import Derived.Stop.Joined
/- Histograms in a slice that came in. -/
namespace Go.Proofs.YtjpnfadmblmjbaaDoor
open Go.ChangeShapes Go.WideShapes Go.ChangeAt Go.Deep Go.RowKit

/-- Histograms that came in. -/
structure HistsIn (W : World) (ao : Option Addr) (L : List HP) : Prop where
  at_ : HsAt W ao L
  each : ∀ p ∈ L, HistAt W p.h p.pv p.nv ∧ p.h.ok

set_option maxRecDepth 100000 in
theorem hist_at_cells {H : Type} {enc : TypeId × Value → H} {W : World} {sp n : Nat} {c0 c1 c2 c3 c4 c5 : Value} {y : DataW H × List MemPlace} (hf : DataW.trod enc Tryd.prog W sp (fun _ => true) true n 62 [c0, c1, c2, c3, c4, c5] = some y) :
    ∃ p : HP, (c0 = .int .i64 p.h.sc ∧ c1 = .int .u64 (p.h.ze : Int) ∧ c2 = .int .i64 p.h.po ∧ c3 = p.pv ∧ c4 = .int .i64 p.h.no ∧ c5 = p.nv) ∧ HistAt W p.h p.pv p.nv ∧ p.h.ok := by
  obtain ⟨y0, y1, y2, y3, m, _, _, h0, h1, h2, h3⟩ := Go.Joins.trod_struct4 Tryd.underlying62 (cs := [c0, c1, c2, c3, c4, c5]) hf
  have k0 : Tryd.prog.cellsOf 3 = 1 := by kernel_rfl
  have k1 : Tryd.prog.cellsOf 28 = 1 := by kernel_rfl
  have k2 : Tryd.prog.cellsOf 60 = 2 := by kernel_rfl
  simp only [k0, k1, k2, List.drop_zero, List.drop_succ_cons, List.take_succ_cons, List.take_zero] at h0 h1 h2 h3
  cases m with
  | zero => simp [DataW.trod] at h0
  | succ m =>
  obtain ⟨sc, e0, _, w0⟩ := DataW.trod_int Tryd.underlying3 h0
  obtain ⟨ze, e1, _, w1⟩ := DataW.trod_int Tryd.underlying28 h1
  injection e0 with e0 _
  injection e1 with e1 _
  subst e0 e1
  obtain ⟨po, pl, rfl, hp⟩ := side_cells h2
  obtain ⟨no, nl, rfl, hn⟩ := side_cells h3
  have b0' := bd_i64 w0
  have b1' := bd_u64 w1
  obtain ⟨⟨ao, c, rfl⟩, bo, d, rfl⟩ := HistAt.sl (h := ⟨sc, ze.toNat, po, pl, no, nl⟩) ⟨hp.at_, hn.at_⟩
  refine ⟨⟨⟨sc, ze.toNat, po, pl, no, nl⟩, ao, c, bo, d⟩, ⟨rfl, ?_, rfl, rfl, rfl, rfl⟩, ⟨hp.at_, hn.at_⟩, ⟨by simp only; omega, by simp only; omega, hp.io, hp.lt, hn.io, hn.lt⟩⟩
  simp only
  rw [show ((ze.toNat : Nat) : Int) = ze by omega]

set_option maxRecDepth 100000 in
theorem hists_of {H : Type} {enc : TypeId × Value → H} {W : World} {sp : Nat} {a : Option Addr} {len cap : Nat} {d : DataW H} {p : List MemPlace}
    (h : DataW.Trod enc Tryd.prog W sp (fun _ => true) true 58 (.slice a len cap) d p) : ∃ L : List HP, L.length = len ∧ HistsIn W a L ∧ len ≤ cap ∧ len ≤ 9223372036854775807 := by
  obtain ⟨fuel, hf⟩ := h
  have k6 : Tryd.prog.cellsOf 62 = 6 := by kernel_rfl
  rcases open_slice Tryd.underlying58 hf with ⟨hcs, _⟩ | ⟨x, l, c, m, n, D, Pl, hcs, _, hl, hm, hmm, _, hi⟩
  · simp [Value.cells] at hcs
    obtain ⟨rfl, rfl, rfl⟩ := hcs
    exact ⟨[], rfl, ⟨fun h => absurd h (by simp), by simp⟩, Nat.le_refl _, by omega⟩
  · simp [Value.cells] at hcs
    obtain ⟨rfl, rfl, rfl⟩ := hcs
    unfold maxLen at hm
    rcases Nat.eq_zero_or_pos len with h0 | h0
    · subst h0
      exact ⟨[], rfl, ⟨fun h => absurd h (by simp), by simp⟩, by omega, by omega⟩
    · have key0 : ∀ i, i < len → ∃ q : HP, (∀ j u, (([.int .i64 q.h.sc, .int .u64 (q.h.ze : Int), .int .i64 q.h.po, q.pv, .int .i64 q.h.no, q.nv] : List Value)[j]? = some u) → W.cell? (x.add (i * 6 + j)) = some u) ∧ HistAt W q.h q.pv q.nv ∧ q.h.ok := by
        intro i hi'
        obtain ⟨cs', hc, ht'⟩ := hi i (by simp at hmm; omega)
        rw [k6] at hc
        obtain ⟨hlen, hcl, hat⟩ := World.cells?_some hc
        match cs', hcl with
        | [c0, c1, c2, c3, c4, c5], _ =>
          obtain ⟨q, ⟨e0, e1, e2, e3, e4, e5⟩, hq1, hq2⟩ := hist_at_cells ht'
          subst e0 e1 e2 e3 e4 e5
          refine ⟨q, fun j u hj => ?_, hq1, hq2⟩
          have hj6 : j < 6 := by
            have := (List.getElem?_eq_some_iff.1 hj).1
            simpa using this
          have := hat j hj6
          rw [Go.Deep.add_add] at this
          rw [this]
          exact hj
      obtain ⟨g, o, spot⟩ := x
      have hspot : spot = Option.none := by
        obtain ⟨q, hq, _⟩ := key0 0 h0
        have c0 := hq 0 _ rfl
        simpa [Addr.add] using World.cell?_spot c0
      subst hspot
      have key : ∀ i, i < len → ∃ q : HP, HElt W g (o + i * 6) q ∧ HistAt W q.h q.pv q.nv ∧ q.h.ok := by
        intro i hi'
        obtain ⟨q, hq, h1⟩ := key0 i hi'
        refine ⟨q, ⟨?_, ?_, ?_, ?_, ?_, ?_⟩, h1⟩
        · have := hq 0 _ rfl; rwa [Go.WideShapes.add_plain] at this
        · have := hq 1 _ rfl; rwa [Go.WideShapes.add_plain] at this
        · have := hq 2 _ rfl; rwa [Go.WideShapes.add_plain] at this
        · have := hq 3 _ rfl; rwa [Go.WideShapes.add_plain] at this
        · have := hq 4 _ rfl; rwa [Go.WideShapes.add_plain] at this
        · have := hq 5 _ rfl; rwa [Go.WideShapes.add_plain] at this
      obtain ⟨rs, hrs, hp⟩ := choose_list key
      refine ⟨rs, hrs, ⟨fun _ => ⟨g, o, rfl, fun i p hi => (hp i p hi).1⟩, fun p hpm => ?_⟩, hl, by omega⟩
      obtain ⟨i, hi, e⟩ := List.getElem_of_mem hpm
      exact (hp i p (by rw [List.getElem?_eq_getElem hi, e])).2
end Go.Proofs.YtjpnfadmblmjbaaDoor
/- Layer 10: the walk of 'HistbitsRows' as the frame wants it. -/
namespace Go.Proofs.YtjpnfadmblmjbaaDoor
open Go.RowKit

theorem histbitsRows_walk (a : Option Addr) (cap : Nat) (L : List HP) (x : HistV) (pv nv : Value) (W : World) (w0 : HistsIn W a L) (hm : L.length ≤ 9223372036854775807) (i1 : HistIn W x pv nv) (HT : ClassTab W) :
    Calls Tryd.prog 7 #[.slice a L.length cap, histV x pv nv] W fun e w' => e = .returned (.bool true) ∧ Kept (fun _ => False) W w' :=
  rows10_walk0 a cap L x pv nv W w0.at_ w0.each i1.at_ i1.ok hm HT (World.block_lt_of_cell? W _ (HT 0 (by omega)))
end Go.Proofs.YtjpnfadmblmjbaaDoor
/- What the listed variable gives the walks of layer 10. -/
namespace Go.Proofs.YtjpnfadmblmjbaaDoor
open Go.ChangeShapes Go.WideShapes Go.ChangeAt Go.RowKit

theorem gClsH : Tryd.prog.globalNamed "limnograph/vary.classes" = some 0 := by kernel_rfl
theorem tClsH : (Tryd.prog.globals[0]?).map (·.type) = some 82 := by kernel_rfl
theorem door_met10 (os : Os) (args : Array Value) : laidMetH Tryd.prog [("limnograph/vary.classes", Rows.laid_limnograph_vary_classes)] ((World.doorLaid Tryd.prog 400 os).forCall (fun _ _ => 0) ⟨#[], args, []⟩).memory :=
  laidMetH_of_parts3 (fuel := 8) (laidMet_of_run' 8 (by kernel_rfl) (by kernel_rfl)) (by kernel_rfl) (by kernel_rfl)
theorem class_of_laid {W : World} (h : laidMetH Tryd.prog [("limnograph/vary.classes", Rows.laid_limnograph_vary_classes)] W) : ClassTab W := by
  rw [MakeChecks.laidMetH_plain _ _ _ (by kernel_rfl)] at h
  obtain ⟨ps, ⟨g0, t0, cs0, f0, p0, q0, hg0, ht0, hv0, hd0, _, _⟩, _, _⟩ := h
  obtain rfl := Option.some.inj (gClsH.symm.trans hg0)
  obtain rfl := Option.some.inj (tClsH.symm.trans ht0)
  have hcs0 := Lib.cells_of_tab (zs := sizeC.map fun (x : Nat) => (x : Int)) Tryd.underlying82 Tryd.underlying3 (by kernel_rfl) (by kernel_rfl) hd0
  intro j hj
  rw [World.var?_cell hg0 hv0 j]
  have e : cs0[j]? = cs0.toList[j]? := by simp
  rw [e, hcs0]
  have hl : j < sizeC.length := hj
  simp [List.getElem?_map, List.getElem?_eq_getElem hl, List.getD_eq_getElem?_getD]
end Go.Proofs.YtjpnfadmblmjbaaDoor
