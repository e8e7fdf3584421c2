/- package histbits: what Put needs, plainly. -/
import Derived.Test.YtjpnfadmblmjbaaDoorZ5
namespace Go.Proofs.YtjpnfadmblmjbaaDoor
open Go.RowKit

theorem getD_cntL (h : HistV) (hok : h.ok) (j : Nat) : (cntL h).getD j 0 < 18446744073709551616 := by
  refine getD_u64 (fun x hx => ?_) j
  unfold cntL at hx
  rcases List.mem_cons.1 hx with rfl | hx
  · exact hok.ze
  · rcases List.mem_append.1 hx with hx | hx
    · exact hok.pl x hx
    · exact hok.nl x hx
theorem difB_len (l m : List Nat) : (difB l m).length ≤ 66 * l.length := by
  induction l generalizing m with
  | nil => simp [difB]
  | cons a l ih =>
    simp only [difB, List.length_append, List.length_cons]
    have := ih m.tail
    have := smallB_len (zgN (difI a (m.headD 0)))
    omega
theorem difB_take (l m : List Nat) (i : Nat) (h : i < l.length) : difB (l.take (i + 1)) m = difB (l.take i) m ++ smallB (zgN (difI (l.getD i 0) (m.getD i 0))) := by
  induction l generalizing m i with
  | nil => simp at h
  | cons a l ih =>
    cases i with
    | zero =>
      have e : m.headD 0 = m.getD 0 0 := by cases m <;> rfl
      simp only [Nat.zero_add, List.take_succ_cons, List.take_zero, difB, List.getD_cons_zero, List.nil_append, List.append_nil]
      rw [e]
    | succ i =>
      have e : m.tail.getD i 0 = m.getD (i + 1) 0 := by cases m <;> simp
      simp only [List.take_succ_cons, difB, List.append_assoc]
      rw [ih m.tail i (by simpa using h), e, List.getD_cons_succ]
theorem smalls_len (l : List Nat) : (l.flatMap smallB).length ≤ 66 * l.length := by
  induction l with
  | nil => simp
  | cons a l ih =>
    simp only [List.flatMap_cons, List.length_append, List.length_cons]
    have := smallB_len a
    omega
theorem smalls_take (l : List Nat) (i : Nat) (h : i < l.length) : (l.take (i + 1)).flatMap smallB = (l.take i).flatMap smallB ++ smallB (l.getD i 0) := by
  have e : l.getD i 0 = l[i] := by rw [List.getD_eq_getElem?_getD, List.getElem?_eq_getElem h]; rfl
  rw [List.take_add_one, List.flatMap_append, List.getElem?_eq_getElem h, e]
  simp
theorem shapeB_len (h : HistV) : (shapeB h).length ≤ 153 := by
  unfold shapeB
  rw [List.length_append, List.length_append, bitsN_length]
  have := sideB_len h.po h.pl.length
  have := sideB_len h.no h.nl.length
  omega
theorem nextH_len (n : Nat) (g h : HistV) : (nextH n g h).length ≤ 154 + 66 * (cntL h).length := by
  unfold nextH
  split
  · rw [List.length_cons]
    have := difB_len (cntL h) (cntL g)
    omega
  · rw [List.length_cons, List.length_append]
    have := smalls_len (cntL h)
    have := shapeB_len h
    omega
/-- The counts of two histograms of one shape are as many. -/
theorem alikeH.cnt {g h : HistV} (a : alikeH h g) : (cntL g).length = (cntL h).length := by
  rw [cntL_length, cntL_length]
  obtain ⟨_, _, a1, _, a2⟩ := a
  omega
theorem difI_range (a b : Nat) : -9223372036854775808 ≤ difI a b ∧ difI a b ≤ 9223372036854775807 := by unfold difI wrap64; omega
/-- The difference of two counts as the program forms it. -/
theorem difI_wrap (a b : Nat) : IntKind.i64.wrap (IntKind.u64.wrap ((a : Int) - (b : Int))) = difI a b := by
  rw [IntKind.wrap_u64, IntKind.wrap_i64]
  unfold difI wrap64
  omega
theorem shapeV_iff (g h : HistV) : (shapeV h = shapeV g) ↔ alikeH h g := by
  unfold shapeV alikeH
  constructor
  · intro e
    injection e with e
    simp only [Array.mk.injEq, List.cons.injEq, Value.int.injEq, true_and, and_true] at e
    omega
  · rintro ⟨a, b, c, d, e⟩
    rw [a, b, c, d, e]

theorem ifs5 {α : Type} {a b : α} {A B C D E : Prop} [Decidable A] [Decidable B] [Decidable C] [Decidable D] [Decidable E] (h : ¬ (A ∧ B ∧ C ∧ D ∧ E)) :
    (if A then if B then if C then if D then if E then a else b else b else b else b else b) = b := by
  by_cases h1 : A
  · rw [if_pos h1]
    by_cases h2 : B
    · rw [if_pos h2]
      by_cases h3 : C
      · rw [if_pos h3]
        by_cases h4 : D
        · rw [if_pos h4, if_neg (fun h5 => h ⟨h1, h2, h3, h4, h5⟩)]
        · rw [if_neg h4]
      · rw [if_neg h3]
    · rw [if_neg h2]
  · rw [if_neg h1]

/-- A row whose writer got the bits, then went on by h: where all lies behind. -/
def PutTo (W w w' : World) (p r : Nat) (v : Value) (bs : List Bool) (n : Nat) (h : HistV) : Prop :=
  ∃ v' pv nv, HB W w' p r v' bs n h pv nv ∧ (v'.ownBlock = v.ownBlock ∨ ∃ k, v'.ownBlock = some k ∧ w.heap.size ≤ k) ∧ Kept (fun k => k = p ∨ k = r ∨ v.ownBlock = some k) w w'
theorem BwTo.part2 {w w1 : World} {B p : Nat} {v : Value} {bs1 : List Bool} (h : BwTo w w1 B p v bs1) :
    ∃ v1, BwAt w1 B p v1 bs1 ∧ (v1.ownBlock = v.ownBlock ∨ ∃ k, v1.ownBlock = some k ∧ w.heap.size ≤ k) ∧ Kept (fun k => k = p ∨ v.ownBlock = some k) w w1 ∧ Hid (∀ w2 l2, BwTo w1 w2 B p v1 l2 → BwTo w w2 B p v l2) := by
  obtain ⟨v1, h1, a1, k1⟩ := h
  refine ⟨v1, h1, a1, k1, fun w2 l2 k => ?_⟩
  obtain ⟨v2, h2, a2, k2⟩ := k
  refine ⟨v2, h2, ?_, k1.step k2 ?_⟩
  · rcases a2 with a2 | ⟨g, e, hg⟩
    · rw [a2]
      rcases a1 with a1 | a1
      · exact .inl a1
      · exact .inr a1
    · exact .inr ⟨g, e, Nat.le_trans k1.size hg⟩
  · intro k hk hS
    rcases hS with rfl | hS
    · exact .inl rfl
    · rcases a1 with a1 | ⟨g, e, hg⟩
      · exact .inr (a1 ▸ hS)
      · rw [e] at hS; cases hS; omega
section
variable {W w w5 w6 : World} {p r n : Nat} {v v' pv nv : Value} {bs bs5 : List Bool} {h h2 : HistV}
theorem HB.base (x : HB W w p r v bs n h pv nv) : ∀ k, (k = p ∨ v.ownBlock = some k) → W.heap.size ≤ k := by
  rintro k (rfl | e)
  · exact x.bw.base
  · exact (ownsRow_lt x.bw.owns e).2
theorem HB.wrote (x : HB W w p r v bs n h pv nv) (hb : BwAt w5 W.heap.size p v' bs5) (hk : Kept (fun k => k = p ∨ v.ownBlock = some k) w w5) : HB W w5 p r v' bs5 n h pv nv := by
  refine ⟨hb, x.row.same hk ?_, x.mp.keptS hk (mine_bw x.mp x.bw) x.base, x.mn.keptS hk (mine_bw x.mn x.bw) x.base, x.rb⟩
  rintro (e | e)
  · exact x.ne.1 e
  · exact x.ne.2 e
theorem HB.put (x : HB W w p r v bs n h pv nv) (t : BwTo w w5 W.heap.size p v bs5) (g : GoneOn r n h h2 pv nv w5 w6) : PutTo W w w6 p r v bs5 (n + 1) h2 := by
  obtain ⟨v', hb, hv', hk⟩ := t
  have y := x.wrote hb hk
  obtain ⟨p', n', w1, hr, m1, m2, hr1, hk1⟩ := g
  have k1 := m1.kept
  have n1 := (m1.down y.mp.kept).keptS hk1 (fun k e e2 => mine_hrow m1 hr1 (by rw [e, e2])) (fun k e => by rw [e]; exact y.rb)
  have n2 := (m2.down y.mp.kept).keptS hk1 (fun k e e2 => mine_hrow m2 hr1 (by rw [e, e2])) (fun k e => by rw [e]; exact y.rb)
  have b1 := hb.keptF k1
  refine ⟨v', p', n', ⟨b1.kept hk1 (fun e => y.ne.1 e.symm) (fun k e e2 => y.ne.2 (by rw [e, e2])), hr, n1, n2, y.rb⟩, hv', ?_⟩
  obtain ⟨c1, c2, c3, c4, c5⟩ := hk
  have ka : Kept (fun k => k = p ∨ k = r ∨ v.ownBlock = some k) w w5 := by
    refine ⟨c1, c2, c3, c4, fun j hj hn => c5 j hj (fun e => hn ?_)⟩
    rcases e with e | e
    · exact .inl e
    · exact .inr (.inr e)
  exact (ka.step k1 (fun k _ e => e.elim)).step hk1 (fun k _ e => .inr (.inl e))
theorem PutTo.ahead (k : Kept (fun _ => False) w w5) (t : PutTo W w5 w6 p r v bs n h) : PutTo W w w6 p r v bs n h := by
  obtain ⟨v', a, b, x, o, hk⟩ := t
  refine ⟨v', a, b, x, ?_, (keptTo k).step hk (fun _ _ e => e)⟩
  rcases o with o | ⟨g, e, hg⟩
  · exact .inl o
  · exact .inr ⟨g, e, Nat.le_trans k.size hg⟩
/-- Counts that were made stay while the writer writes. -/
theorem Mine.wrote {W1 : World} {u : Value} {xs : List Value} {B : Nat} (m : Mine W1 w 28 u xs) (b : BwAt w B p v bs) (t : BwTo w w5 B p v bs5) : SlAt w5 u xs := by
  obtain ⟨_, _, _, hk⟩ := t
  refine m.at_.kept hk ?_
  rintro k e (rfl | e2)
  · exact own_box m.own b.box (by decide) e
  · obtain ⟨cur, hc⟩ := ownsRow_block b.owns e2
    exact own_box m.own hc (by decide) e
theorem HRow.wrote {B : Nat} (x : HRow w r n h pv nv) (h1 : r ≠ p) (h2 : v.ownBlock ≠ some r) (t : BwTo w w5 B p v bs5) : HRow w5 r n h pv nv := BwTo.newer t x h1 h2
theorem slAt_keptE {S : Nat → Prop} {w w' : World} {v : Value} {xs : List Value} (h : SlAt w v xs) (k : Kept S w w') (hn : xs ≠ [] → ∀ j, v.ownBlock = some j → ¬ S j) : SlAt w' v xs := by
  by_cases h0 : xs = []
  · subst h0
    obtain ⟨ao, c, e, hz, _⟩ := h.val
    exact ⟨ao, c, e, hz, fun a ha j u hu => by simp at hu⟩
  · exact h.kept k (hn h0)
theorem slAt_old {w : World} {v : Value} {xs : List Value} (h : SlAt w v xs) (h0 : xs ≠ []) (j : Nat) (e : v.ownBlock = some j) : j < w.heap.size := by
  obtain ⟨ao, c, rfl, _, _⟩ := h.val
  have hp : 0 < xs.length := by cases xs with | nil => exact absurd rfl h0 | cons => simp
  obtain ⟨g, off, rfl, hc⟩ := h.elem (u := xs[0]) (List.getElem?_eq_getElem hp)
  have : g = j := by simpa [Value.ownBlock] using e
  subst this
  exact World.block_lt_of_cell? _ _ hc
theorem uvals_ne {l : List Nat} (h : uvals l ≠ []) : l ≠ [] := by rintro rfl; exact h rfl
/-- Counts that lie in none of the blocks that the writer may change. -/
def Apart (p : Nat) (v : Value) (h : HistV) (pv nv : Value) : Prop := ∀ k, (k = p ∨ v.ownBlock = some k) → (h.pl ≠ [] → pv.ownBlock ≠ some k) ∧ (h.nl ≠ [] → nv.ownBlock ≠ some k)
theorem HistAt.wrote {B : Nat} (x : HistAt w h pv nv) (hap : Apart p v h pv nv) (t : BwTo w w5 B p v bs5) : HistAt w5 h pv nv := by
  obtain ⟨_, _, _, hk⟩ := t
  exact ⟨slAt_keptE x.p hk (fun h0 k e hs => (hap k hs).1 (uvals_ne h0) e), slAt_keptE x.n hk (fun h0 k e hs => (hap k hs).2 (uvals_ne h0) e)⟩
theorem uvals_ne' {l : List Nat} (h : l ≠ []) : uvals l ≠ [] := by cases l with | nil => exact absurd rfl h | cons => simp [uvals]
/-- What is older than the writer is apart from it. -/
theorem Apart.older (x : HistAt W h pv nv) (hb : ∀ k, (k = p ∨ v.ownBlock = some k) → W.heap.size ≤ k) : Apart p v h pv nv := by
  intro k hk
  have h1 := hb k hk
  exact ⟨fun h0 e => by have := slAt_old x.p (uvals_ne' h0) k e; omega, fun h0 e => by have := slAt_old x.n (uvals_ne' h0) k e; omega⟩
end
end Go.Proofs.YtjpnfadmblmjbaaDoor
