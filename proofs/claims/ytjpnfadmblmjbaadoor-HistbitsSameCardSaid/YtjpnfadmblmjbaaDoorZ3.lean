/- Layer 10: bits plainly; a writer and a row of histograms, both behind a world. -/
import Derived.Test.YtjpnfadmblmjbaaDoorZ2
import Derived.Test.YtjpnfadmblmjbaaDoorV9
namespace Go.Proofs.YtjpnfadmblmjbaaDoor
open Go.RowKit

/-- Have two histograms one shape? -/
def alikeH (g h : HistV) : Prop := g.sc = h.sc ∧ g.po = h.po ∧ g.pl.length = h.pl.length ∧ g.no = h.no ∧ g.nl.length = h.nl.length
instance (g h : HistV) : Decidable (alikeH g h) := by unfold alikeH; exact inferInstance
/-- A signed number's turned form, as a number. -/
def zgN (a : Int) : Nat := (zigI a).toNat
/-- A side's shape. -/
def sideB (o : Int) (n : Nat) : List Bool := bitsN n 8 ++ (if n = 0 then [] else smallB (zgN o))
def shapeB (h : HistV) : List Bool := bitsN (h.sc + 10).toNat 5 ++ sideB h.po h.pl.length ++ sideB h.no h.nl.length
/-- The difference of two counts, as a signed number. -/
def difI (a b : Nat) : Int := wrap64 ((a : Int) - (b : Int))
/-- The bits of counts whose shape is that of the ones ahead. -/
def difB : List Nat → List Nat → List Bool
  | [], _ => []
  | a :: l, m => smallB (zgN (difI a (m.headD 0))) ++ difB l m.tail
/-- The bits of a row's next histogram, behind n of them, the last one g. -/
def nextH (n : Nat) (g h : HistV) : List Bool :=
  if 0 < n ∧ alikeH h g then true :: difB (cntL h) (cntL g) else false :: (shapeB h ++ (cntL h).flatMap smallB)
theorem zgN_zero : zgN 0 = 0 := by decide
theorem difB_same (l : List Nat) : difB l l = List.replicate (2 * l.length) false := by
  induction l with
  | nil => rfl
  | cons a l ih =>
    have e : difI a a = 0 := by unfold difI wrap64; simp
    have s0 : smallB 0 = [false, false] := by decide
    simp only [difB, List.headD_cons, List.tail_cons, e, zgN_zero, s0, ih, List.length_cons]
    rw [show 2 * (l.length + 1) = 2 * l.length + 1 + 1 by omega, List.replicate_succ, List.replicate_succ]
    rfl
/-- A histogram that stays takes one bit, and two for each of its counts. -/
theorem nextH_same (n : Nat) (h : HistV) (hn : 0 < n) : (nextH n h h).length = 1 + 2 * (1 + h.pl.length + h.nl.length) := by
  unfold nextH
  rw [if_pos ⟨hn, rfl, rfl, rfl, rfl, rfl⟩, difB_same, List.length_cons, List.length_replicate, cntL_length]
  omega

/-- A writer and a row, both behind W. -/
structure HB (W w : World) (p r : Nat) (v : Value) (bs : List Bool) (n : Nat) (h : HistV) (pv nv : Value) : Prop where
  bw : BwAt w W.heap.size p v bs
  row : HRow w r n h pv nv
  mp : Mine W w 28 pv (uvals h.pl)
  mn : Mine W w 28 nv (uvals h.nl)
  rb : W.heap.size ≤ r
section
variable {W w w' : World} {p r n : Nat} {v pv nv : Value} {bs bs' : List Bool} {h h2 : HistV}
theorem HB.ne (x : HB W w p r v bs n h pv nv) : r ≠ p ∧ v.ownBlock ≠ some r := by
  refine ⟨?_, own_box x.bw.owns x.row (by decide)⟩
  rintro rfl
  have h1 := x.row
  unfold HRow at h1
  rw [x.bw.box] at h1
  injection h1 with h1
  injection h1 with _ h1
  exact absurd h1 (by decide)
theorem HB.on (x : HB W w p r v bs n h pv nv) (k : Kept (fun _ => False) w w') : HB W w' p r v bs n h pv nv := ⟨x.bw.keptF k, x.row.same k (fun x => x), x.mp.on k, x.mn.on k, x.rb⟩
theorem mine_bw {xs : List Value} {u : Value} (m : Mine W w 28 u xs) (b : BwAt w W.heap.size p v bs) : ∀ k, u.ownBlock = some k → ¬ (k = p ∨ v.ownBlock = some k) := by
  rintro k e (rfl | e2)
  · exact own_box m.own b.box (by decide) e
  · obtain ⟨cur, hc⟩ := ownsRow_block b.owns e2
    exact own_box m.own hc (by decide) e
theorem HB.to (x : HB W w p r v bs n h pv nv) (t : BwTo w w' W.heap.size p v bs') : ∃ v', HB W w' p r v' bs' n h pv nv := by
  obtain ⟨v', hb, _, hk⟩ := t
  have hbase : ∀ k, (k = p ∨ v.ownBlock = some k) → W.heap.size ≤ k := by
    rintro k (rfl | e)
    · exact x.bw.base
    · exact (ownsRow_lt x.bw.owns e).2
  refine ⟨v', hb, x.row.same hk ?_, x.mp.keptS hk (mine_bw x.mp x.bw) hbase, x.mn.keptS hk (mine_bw x.mn x.bw) hbase, x.rb⟩
  rintro (e | e)
  · exact x.ne.1 e
  · exact x.ne.2 e
theorem HB.gone (x : HB W w p r v bs n h pv nv) (g : GoneOn r n h h2 pv nv w w') : ∃ p' n', HB W w' p r v bs (n + 1) h2 p' n' := by
  obtain ⟨p', n', w1, hr, m1, m2, hr1, hk⟩ := g
  have k1 := m1.kept
  have b1 := x.bw.keptF k1
  have y := x.on k1
  have n1 := (m1.down x.mp.kept).keptS hk (fun k e e2 => mine_hrow m1 hr1 (by rw [e, e2])) (fun k e => by rw [e]; exact x.rb)
  have n2 := (m2.down x.mp.kept).keptS hk (fun k e e2 => mine_hrow m2 hr1 (by rw [e, e2])) (fun k e => by rw [e]; exact x.rb)
  exact ⟨p', n', b1.kept hk (fun e => x.ne.1 e.symm) (fun k e e2 => x.ne.2 (by rw [e, e2])), hr, n1, n2, x.rb⟩
end
end Go.Proofs.YtjpnfadmblmjbaaDoor
