/- Layer 1: what is put down, as it came in; 'some'. -/
import Derived.Test.YtanhdjdojeoodaaB17
import Derived.Test.YtanhdjdojeoodaaR1
namespace Go.Proofs.Ytanhdjdojeoodaa
open Go.ChangeShapes Go.WideShapes Go.ChangeAt Go.RowKit Go.Deep
attribute [local go_sem ↓] Go.wp_at_zero Go.wp_at_succ

theorem trod_row {H : Type} {enc : TypeId × Value → H} {P : Program} {T E : TypeId} {k : IntKind} {W : World} {sp n : Nat} {v : Value} {y : DataW H × List MemPlace}
    (hT : P.underlying T = some (.slice E)) (hE : P.underlying E = some (.int k)) (hc : P.cellsOf E = 1) (h : DataW.trod enc P W sp (fun _ => true) true n T [v] = some y) : ∃ ao len cap zs, v = .slice ao len cap ∧ IsRow k W ao len cap zs := by
  rcases open_ints hT hE hc h with ⟨hcs, _⟩ | ⟨x, l, c, zs, hcs, _, hl, hm, hz, _, hcell, hwz⟩
  · injection hcs with e _
    exact ⟨none, 0, 0, [], e, .inl ⟨rfl, rfl, rfl, rfl⟩⟩
  · injection hcs with e _
    exact ⟨some x, l, c, zs, e, .inr ⟨_, rfl, hl, hm, by simpa using hz, hcell, hwz⟩⟩
theorem trod_i64 {H : Type} {enc : TypeId × Value → H} {P : Program} {T : TypeId} {k : IntKind} {W : World} {sp n : Nat} {v : Value} {y : DataW H × List MemPlace}
    (hT : P.underlying T = some (.int k)) (h : DataW.trod enc P W sp (fun _ => true) true n T [v] = some y) : ∃ x, v = .int k x ∧ (Lit.int k x).wf = true := by
  obtain ⟨x, e, _, hw⟩ := DataW.trod_int hT h
  injection e with e _
  exact ⟨x, e, hw⟩

/-- What is put down. -/
structure PutRec where
  k : Int
  x : Nat
  z : Int
  bo : Option Addr
  bc : Nat
  lb : List Nat

/-- It lies at a place. -/
structure RecAt (W : World) (g o : Nat) (r : PutRec) : Prop where
  ck : W.cell? ⟨g, o, none⟩ = some (.int .i64 r.k)
  cx : W.cell? ⟨g, o + 1, none⟩ = some (.int .u64 (r.x : Int))
  cz : W.cell? ⟨g, o + 2, none⟩ = some (.int .i64 r.z)
  cb : W.cell? ⟨g, o + 3, none⟩ = some (.slice r.bo r.lb.length r.bc)
  hx : r.x < 18446744073709551616
  hz : -9223372036854775808 ≤ r.z ∧ r.z ≤ 9223372036854775807
  row : SlAt W (.slice r.bo r.lb.length r.bc) (bys r.lb)
  hb : ∀ y ∈ r.lb, y < 256
  cap : r.lb.length ≤ r.bc

/-- A slice of them. -/
def RecsAt (W : World) (ao : Option Addr) (rs : List PutRec) : Prop :=
  0 < rs.length → ∃ g o, ao = some ⟨g, o, none⟩ ∧ ∀ i r, rs[i]? = some r → RecAt W g (o + i * 4) r

theorem isRow_cap {k : IntKind} {w : World} {a : Option Addr} {len cap : Nat} {zs : List Int} (h : IsRow k w a len cap zs) : len ≤ cap ∧ cap ≤ maxLen := by
  rcases h with ⟨rfl, rfl, rfl, rfl⟩ | ⟨x, rfl, hlc, hm, _⟩
  · exact ⟨Nat.le_refl _, by unfold maxLen; omega⟩
  · exact ⟨hlc, hm⟩

theorem choose_list {α : Type} {n : Nat} {P : Nat → α → Prop} (h : ∀ i, i < n → ∃ r, P i r) : ∃ l : List α, l.length = n ∧ ∀ i r, l[i]? = some r → P i r := by
  induction n with
  | zero => exact ⟨[], rfl, by simp⟩
  | succ n ih =>
    obtain ⟨l, hl, hp⟩ := ih (fun i hi => h i (by omega))
    obtain ⟨r, hr⟩ := h n (by omega)
    refine ⟨l ++ [r], by simp [hl], fun i r' hi => ?_⟩
    rw [List.getElem?_append] at hi
    split at hi
    · exact hp i r' hi
    · rename_i h1
      have h2 : i - l.length = 0 := by
        rcases Nat.eq_zero_or_pos (i - l.length) with h | h
        · exact h
        · rw [List.getElem?_eq_none (by simp; omega)] at hi; cases hi
      rw [h2] at hi
      simp at hi
      have h3 : i = n := by omega
      subst hi; rw [h3]; exact hr

theorem putRecs_of {H : Type} {enc : TypeId × Value → H} {W : World} {sp : Nat} {a : Option Addr} {len cap : Nat} {d : DataW H} {p : List MemPlace}
    (h : DataW.Trod enc Try.prog W sp (fun _ => true) true 22 (.slice a len cap) d p) : ∃ rs : List PutRec, rs.length = len ∧ RecsAt W a rs := by
  rcases recs_of Try.underlying22 Try.underlying31 (by kernel_rfl) (by kernel_rfl) h with ⟨rfl, rfl, rfl⟩ | ⟨x, rfl, hl, hm, hc⟩
  · exact ⟨[], rfl, fun h => absurd h (by simp)⟩
  · rcases Nat.eq_zero_or_pos len with h0 | h0
    · subst h0
      exact ⟨[], rfl, fun h => absurd h (by simp)⟩
    · obtain ⟨g, o, spot⟩ := x
      have hspot : spot = Option.none := by
        obtain ⟨v0, n0, y0, c0, _⟩ := hc 0 h0 0 _ rfl
        simpa [Addr.add] using World.cell?_spot c0
      subst hspot
      have key : ∀ i, i < len → ∃ r : PutRec, RecAt W g (o + i * 4) r := by
        intro i hi
        have hcs := hc i hi
        obtain ⟨v0, n0, y0, c0, t0⟩ := hcs 0 _ rfl
        obtain ⟨v1, n1, y1, c1, t1⟩ := hcs 1 _ rfl
        obtain ⟨v2, n2, y2, c2, t2⟩ := hcs 2 _ rfl
        obtain ⟨v3, n3, y3, c3, t3⟩ := hcs 3 _ rfl
        obtain ⟨k0, rfl, _⟩ := trod_i64 Try.underlying3 t0
        obtain ⟨k1, rfl, w1⟩ := trod_i64 Try.underlying28 t1
        obtain ⟨k2, rfl, w2⟩ := trod_i64 Try.underlying3 t2
        obtain ⟨bo, bl, bc, zs, rfl, hrow⟩ := trod_row Try.underlying29 Try.underlying5 (by kernel_rfl) t3
        obtain ⟨lb, hlb, hb, hs⟩ := hrow.slAt8
        subst hlb
        have b1 := bd_u64 w1
        have b2 := bd_i64 w2
        obtain ⟨n, rfl⟩ : ∃ n : Nat, k1 = n := ⟨k1.toNat, by omega⟩
        rw [Go.WideShapes.add_plain] at c0 c1 c2 c3
        exact ⟨⟨k0, n, k2, bo, bc, lb⟩, c0, c1, c2, c3, by show n < 18446744073709551616; omega, b2, hs, hb, (isRow_cap hrow).1⟩
      obtain ⟨rs, hrs, hp⟩ := choose_list key
      exact ⟨rs, hrs, fun _ => ⟨g, o, rfl, hp⟩⟩
end Go.Proofs.Ytanhdjdojeoodaa
