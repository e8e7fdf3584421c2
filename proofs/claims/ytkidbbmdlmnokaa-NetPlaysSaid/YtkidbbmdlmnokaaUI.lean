/- Layer 23: what is done, in a slice that came in. -/
import Derived.Test.YtkidbbmdlmnokaaU3
import Derived.Test.YtkidbbmdlmnokaaUE
import Derived.Test.YtkidbbmdlmnokaaR2
import Derived.Deep.Slices
import Derived.Deep.Fields
import Derived.ChangeSame
namespace Go.Proofs.Ytkidbbmdlmnokaa
open Go.ChangeShapes Go.WideShapes Go.ChangeAt Go.Deep Go.RowKit

/-- What is done. -/
structure Ac where
  kind : Int
  i : Int
  k : Int
  m : Mg
def cellsA (x : Ac) : List Value := [.int .i64 x.kind, .int .i64 x.i, .int .i64 x.k, .bool x.m.ack, .int .i64 x.m.have_, .slice x.m.a x.m.b.length x.m.c]
/-- Its numbers, its message. -/
structure Ac.Ok (x : Ac) (W : World) : Prop where
  kb : -9223372036854775808 ≤ x.kind ∧ x.kind ≤ 9223372036854775807
  ib : -9223372036854775808 ≤ x.i ∧ x.i ≤ 9223372036854775807
  kk : -9223372036854775808 ≤ x.k ∧ x.k ≤ 9223372036854775807
  at_ : x.m.At W
  byte : ∀ y ∈ x.m.b, 0 ≤ y ∧ y < 256
/-- Acts that came in. -/
structure ActsIn (W : World) (ao : Option Addr) (L : List Ac) : Prop where
  at_ : GAt cellsA 6 W ao L
  ok : ∀ x ∈ L, x.Ok W
theorem act_cells {H : Type} {enc : TypeId × Value → H} {W : World} {sp n : Nat} {c0 c1 c2 c3 c4 c5 : Value} {y : DataW H × List MemPlace} (hf : DataW.trod enc Try.prog W sp (fun _ => true) true n 31 [c0, c1, c2, c3, c4, c5] = some y) :
    ∃ x : Ac, [c0, c1, c2, c3, c4, c5] = cellsA x ∧ x.Ok W := by
  obtain ⟨y0, y1, y2, y3, m, _, _, h0, h1, h2, h3⟩ := Go.Joins.trod_struct4 Try.underlying31 (cs := [c0, c1, c2, c3, c4, c5]) hf
  have k0 : Try.prog.cellsOf 3 = 1 := by kernel_rfl
  have k3 : Try.prog.cellsOf 29 = 3 := by kernel_rfl
  simp only [k0, k3, List.drop_zero, List.drop_succ_cons, List.take_succ_cons, List.take_zero] at h0 h1 h2 h3
  cases m with
  | zero => simp [DataW.trod] at h0
  | succ m =>
  obtain ⟨a0, e0, _, w0⟩ := DataW.trod_int Try.underlying3 h0
  obtain ⟨a1, e1, _, w1⟩ := DataW.trod_int Try.underlying3 h1
  obtain ⟨a2, e2, _, w2⟩ := DataW.trod_int Try.underlying3 h2
  injection e0 with e0 _
  injection e1 with e1 _
  injection e2 with e2 _
  subst e0 e1 e2
  obtain ⟨ack, hv, a, l, c, b, rfl, rfl, rfl, _, _, hbl, hsl, hby⟩ := msg_cells h3
  subst hbl
  exact ⟨⟨a0, a1, a2, ⟨ack, hv, a, c, b⟩⟩, rfl, bd_i64 w0, bd_i64 w1, bd_i64 w2, hsl, hby⟩
set_option maxRecDepth 100000 in
theorem acts_of {H : Type} {enc : TypeId × Value → H} {W : World} {sp : Nat} {a : Option Addr} {len cap : Nat} {d : DataW H} {p : List MemPlace}
    (h : DataW.Trod enc Try.prog W sp (fun _ => true) true 22 (.slice a len cap) d p) : ∃ L : List Ac, L.length = len ∧ ActsIn W a L ∧ len ≤ cap ∧ len ≤ 9223372036854775807 := by
  obtain ⟨fuel, hf⟩ := h
  have k6 : Try.prog.cellsOf 31 = 6 := by kernel_rfl
  rcases open_slice Try.underlying22 hf with ⟨hcs, _⟩ | ⟨x, l, c, m, n, D, Pl, hcs, _, hl, hm, hmm, _, hi⟩
  · simp [Value.cells] at hcs
    obtain ⟨rfl, rfl, rfl⟩ := hcs
    exact ⟨[], rfl, ⟨fun h => absurd h (by simp), fun p hp => (by cases hp)⟩, Nat.le_refl _, by omega⟩
  · simp [Value.cells] at hcs
    obtain ⟨rfl, rfl, rfl⟩ := hcs
    unfold maxLen at hm
    rcases Nat.eq_zero_or_pos len with h0 | h0
    · subst h0
      exact ⟨[], rfl, ⟨fun h => absurd h (by simp), fun p hp => (by cases hp)⟩, by omega, by omega⟩
    · have key0 : ∀ i, i < len → ∃ q : Ac, (∀ j u, (cellsA q)[j]? = some u → W.cell? (x.add (i * 6 + j)) = some u) ∧ q.Ok W := by
        intro i hi'
        obtain ⟨cs', hc, ht'⟩ := hi i (by simp at hmm; omega)
        rw [k6] at hc
        obtain ⟨hlen, hcl, hat⟩ := World.cells?_some hc
        match cs', hcl with
        | [c0, c1, c2, c3, c4, c5], _ =>
          obtain ⟨q, e, hq⟩ := act_cells ht'
          refine ⟨q, fun j u hj => ?_, hq⟩
          rw [← e] at hj
          have hj2 : j < 6 := by
            have := (List.getElem?_eq_some_iff.1 hj).1
            simpa using this
          have := hat j hj2
          rw [Go.Deep.add_add] at this
          rw [this]
          exact hj
      obtain ⟨g, o, spot⟩ := x
      have hspot : spot = Option.none := by
        obtain ⟨q, hq, _⟩ := key0 0 h0
        have c0 := hq 0 _ rfl
        simpa [Addr.add] using World.cell?_spot c0
      subst hspot
      have key : ∀ i, i < len → ∃ q : Ac, (∀ j u, (cellsA q)[j]? = some u → W.cell? ⟨g, o + i * 6 + j, none⟩ = some u) ∧ q.Ok W := by
        intro i hi'
        obtain ⟨q, hq, h1⟩ := key0 i hi'
        refine ⟨q, fun j u hj => ?_, h1⟩
        have := hq j u hj
        rwa [Go.WideShapes.add_plain, ← Nat.add_assoc] at this
      obtain ⟨rs, hrs, hp⟩ := choose_list key
      refine ⟨rs, hrs, ⟨fun _ => ⟨g, o, rfl, fun i p hi => (hp i p hi).1⟩, fun p hpm => ?_⟩, hl, by omega⟩
      obtain ⟨i, hi, e⟩ := List.getElem_of_mem hpm
      exact (hp i p (by rw [List.getElem?_eq_getElem hi, e])).2
end Go.Proofs.Ytkidbbmdlmnokaa
