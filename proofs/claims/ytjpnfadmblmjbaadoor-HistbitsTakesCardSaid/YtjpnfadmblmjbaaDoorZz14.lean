/- Texts put together: Z24, Z25, Z27. -/
import Derived.Test.YtjpnfadmblmjbaaDoorZz13
import Derived.Deep.WholeRow
/- Layer 10: rows of histograms that are made; the bits of a whole row. -/
namespace Go.Proofs.YtjpnfadmblmjbaaDoor
open Go.RowKit

def cellsH (p : HP) : List Value := [.int .i64 p.h.sc, .int .u64 (p.h.ze : Int), .int .i64 p.h.po, .slice p.a p.h.pl.length p.c, .int .i64 p.h.no, .slice p.b p.h.nl.length p.d]
def flatH (L : List HP) : List Value := L.flatMap cellsH
theorem flatH_length (L : List HP) : (flatH L).length = L.length * 6 := by
  induction L with
  | nil => rfl
  | cons p L ih => unfold flatH at ih ⊢; rw [List.flatMap_cons, List.length_append, ih]; simp [cellsH]; omega
theorem flatH_append (a b : List HP) : flatH (a ++ b) = flatH a ++ flatH b := by simp [flatH]
theorem flatH_get {L : List HP} {i : Nat} {p : HP} (h : L[i]? = some p) {j : Nat} (hj : j < 6) : (flatH L)[i * 6 + j]? = (cellsH p)[j]? := by
  induction L generalizing i with
  | nil => simp at h
  | cons q L ih =>
    unfold flatH at ih ⊢
    rw [List.flatMap_cons]
    have hq : (cellsH q).length = 6 := rfl
    cases i with
    | zero =>
      simp at h; subst h
      rw [List.getElem?_append_left (by omega)]; simp
    | succ i =>
      simp at h
      rw [List.getElem?_append_right (by omega), hq, show (i + 1) * 6 + j - 6 = i * 6 + j by omega]
      exact ih h
/-- A row of histograms that was made behind the world W. -/
structure MineH (W w : World) (v : Value) (L : List HP) : Prop where
  own : w.ownsRow W.heap.size 62 6 v L.length (flatH L)
  kept : Kept (fun _ => False) W w
theorem MineH.nil (w : World) : MineH w w (.slice none 0 0) [] := ⟨World.ownsRow_nil _ _ _ _, Kept.refl _ _⟩
theorem MineH.nil' {W w : World} (k : Kept (fun _ => False) W w) : MineH W w (.slice none 0 0) [] := ⟨World.ownsRow_nil _ _ _ _, k⟩
theorem MineH.on {W w w' : World} {v : Value} {L : List HP} (h : MineH W w v L) (hk : Kept (fun _ => False) w w') : MineH W w' v L := ⟨hk.owns h.own (fun _ _ x => x), h.kept.trans hk⟩
theorem MineH.keptS {S : Nat → Prop} {W w w' : World} {v : Value} {L : List HP} (h : MineH W w v L) (hk : Kept S w w') (hn : ∀ k, v.ownBlock = some k → ¬ S k) (hs : ∀ k, S k → W.heap.size ≤ k) : MineH W w' v L := ⟨hk.owns h.own hn, h.kept.newer hk hs⟩
theorem MineH.slice {W w : World} {v : Value} {L : List HP} (h : MineH W w v L) : ∃ a c, v = .slice a L.length c := ownsRow_slice h.own
theorem MineH.at_ {W w : World} {a : Option Addr} {n c : Nat} {L : List HP} (h : MineH W w (.slice a n c) L) : HsAt w a L := by
  intro h0
  rcases h.own.2 with ⟨_, e⟩ | ⟨g, cap, cur, e, _⟩
  · omega
  · injection e with e1 e2 e3
    subst e1
    refine ⟨g, 0, rfl, fun i p hi => ?_⟩
    have hc := h.own.cells (g := g) rfl
    have key : ∀ j u, j < 6 → (cellsH p)[j]? = some u → w.cell? ⟨g, i * 6 + j, none⟩ = some u := by
      intro j u hj hu
      have := hc (i * 6 + j) u (by rw [flatH_get hi hj]; exact hu)
      rwa [addr_add0] at this
    refine ⟨?_, ?_, ?_, ?_, ?_, ?_⟩
    · rw [Nat.zero_add]; exact key 0 _ (by omega) rfl
    · rw [Nat.zero_add]; exact key 1 _ (by omega) rfl
    · rw [Nat.zero_add]; exact key 2 _ (by omega) rfl
    · rw [Nat.zero_add]; exact key 3 _ (by omega) rfl
    · rw [Nat.zero_add]; exact key 4 _ (by omega) rfl
    · rw [Nat.zero_add]; exact key 5 _ (by omega) rfl
theorem Tryd.infoHist : (Tryd.prog.info? 62).map (fun i => (i.zero, i.size, i.bytes)) = some (some (.agg #[.int .i64 0, .int .u64 0, .int .i64 0, .slice none 0 0, .int .i64 0, .slice none 0 0]), 6, 80) := by kernel_rfl
theorem src_oneH (w : World) (p : HP) : Src Tryd.prog 6 58 (.slice (some ⟨w.heap.size, 0, none⟩) 1 1) 1 (cellsH p) (w.alloc (.cells (cellsH p).toArray 62)) :=
  Src.ofSlice _ Tryd.underlying58 _ 1 1 (cellsH p) rfl (World.news_of_block (cs := (cellsH p).toArray) (t := 62) (fr := (0, 0)) (heap_alloc_new w _)) (by intro u hu; simp [cellsH] at hu; rcases hu with rfl | rfl | rfl | rfl | rfl | rfl <;> rfl)
theorem wpList_mineH {ops : Array Oper} {rest : List Oper} {o : Oper} {a : Act} {Q : Exit → Act → World → Prop} {w : World} (hgd : o.guard = none) (s x : Operand)
    (ho : o.op = .call { callee := .builtin .append, args := #[s, x], argTypes := #[58, 58] })
    (W : World) (v : Value) (L : List HP) (hv : a.eval s = v) (hm : MineH W w v L)
    (y : Value) (p : HP) (hy : a.eval x = y) (hs : Src Tryd.prog 6 58 y 1 (cellsH p) w)
    (hl : L.length + 1 ≤ 1000000000)
    (h : ∀ v' w', MineH W w' v' (L ++ [p]) → Kept (fun k => v.ownBlock = some k) w w' → wpList Tryd.prog ops Q rest (a.put o.dst v') w') : wpList Tryd.prog ops Q (o :: rest) a w := by
  obtain ⟨i, hi, hz0, hz1, hz2⟩ := info_parts Tryd.infoHist
  refine wpList_append_src w hgd s x _ _ ho W.heap.size 62 i _ 6 80 Tryd.underlying58 hi hz0 hz1 hz2 rfl v L.length (flatH L) hv hm.own y 1 (cellsH p) hy hs (by unfold maxLen; omega) (by omega) hm.kept.size ?_
  intro v' w' hown hg _ hat
  refine h v' w' ⟨?_, ?_⟩ ((Kept.refl (fun k => v.ownBlock = some k) w).grown hg (fun k e _ => e))
  · rw [List.length_append, flatH_append]
    simpa [flatH] using hown
  · exact hm.kept.grown hg (fun k e hlt => by have := (ownsRow_lt hm.own e).2; omega)

/-- The last of the first k histograms. -/
def lastV (F : List HistV) (k : Nat) : HistV := if k = 0 then zeroH else F.getD (k - 1) zeroH
/-- The bits of the first k histograms. -/
def putAll (F : List HistV) : Nat → List Bool
  | 0 => []
  | k + 1 => putAll F k ++ nextH k (lastV F k) (F.getD k zeroH)
theorem lastV_succ (F : List HistV) (k : Nat) : lastV F (k + 1) = F.getD k zeroH := rfl
theorem putAll_le (F : List HistV) (hF : ∀ h ∈ F, h.pl.length ≤ 170 ∧ h.nl.length ≤ 170) (k : Nat) (hk : k ≤ F.length) : (putAll F k).length ≤ k * 30000 := by
  induction k with
  | zero => exact Nat.le_refl _
  | succ k ih =>
    have ih := ih (by omega)
    show (putAll F k ++ nextH k (lastV F k) (F.getD k zeroH)).length ≤ _
    have h1 := nextH_len k (lastV F k) (F.getD k zeroH)
    have hm : F.getD k zeroH ∈ F := by
      rw [List.getD_eq_getElem?_getD, List.getElem?_eq_getElem (by omega)]
      exact List.getElem_mem _
    have h2 := hF _ hm
    rw [cntL_length] at h1
    rw [List.length_append]
    omega
theorem putAll_mono (F : List HistV) (n m : Nat) (h : n ≤ m) : ∃ rest, putAll F m = putAll F n ++ rest := by
  induction m with
  | zero => obtain rfl : n = 0 := by omega
            exact ⟨[], by simp⟩
  | succ m ih =>
    rcases Nat.lt_or_ge n (m + 1) with hlt | hge
    · obtain ⟨rest, e⟩ := ih (by omega)
      exact ⟨rest ++ nextH m (lastV F m) (F.getD m zeroH), by show putAll F m ++ _ = _; rw [e, List.append_assoc]⟩
    · obtain rfl : n = m + 1 := by omega
      exact ⟨[], by simp⟩
theorem putAll_drop (F : List HistV) (n m : Nat) (h : n < m) : ∃ rest, (putAll F m).drop (putAll F n).length = nextH n (lastV F n) (F.getD n zeroH) ++ rest := by
  obtain ⟨rest, e⟩ := putAll_mono F (n + 1) m (by omega)
  refine ⟨rest, ?_⟩
  rw [e]
  show (putAll F n ++ nextH n (lastV F n) (F.getD n zeroH) ++ rest).drop _ = _
  rw [List.append_assoc, List.drop_left]
/-- The right ones of a row, in their places. -/
def okP (p : HP) : Bool := p.h.err == 0
theorem filter_step {L : List HP} {i : Nat} (h : i < L.length) : (L.take (i + 1)).filter okP = if okP L[i] then (L.take i).filter okP ++ [L[i]] else (L.take i).filter okP := by
  rw [List.take_add_one, List.getElem?_eq_getElem h, List.filter_append]
  split
  · rename_i hb; simp [hb]
  · rename_i hb; simp [hb]
theorem filter_take {L : List HP} (i : Nat) : (L.take i).filter okP = (L.filter okP).take ((L.take i).filter okP).length := by
  have h := List.take_append_drop i L
  have e : L.filter okP = (L.take i).filter okP ++ (L.drop i).filter okP := by rw [← List.filter_append, h]
  rw [e, List.take_left]
theorem filter_get {L : List HP} {i : Nat} (h : i < L.length) (hb : okP L[i] = true) : (L.filter okP)[((L.take i).filter okP).length]? = some L[i] := by
  have e : L.filter okP = (L.take i).filter okP ++ (L.drop i).filter okP := by rw [← List.filter_append, List.take_append_drop]
  rw [e, List.drop_eq_getElem_cons h, List.filter_cons, if_pos hb]
  rw [List.getElem?_append_right (Nat.le_refl _)]
  simp
end Go.Proofs.YtjpnfadmblmjbaaDoor
/- Layer 10: what stays beside what. -/
namespace Go.Proofs.YtjpnfadmblmjbaaDoor
open Go.RowKit

/-- Blocks that are newer than W and hold no E. -/
def Blk (W w : World) (S : Nat → Prop) (E : TypeId) : Prop := ∀ j, S j → W.heap.size ≤ j ∧ ∃ cs fr T, w.heap[j]? = some (.cells cs T fr) ∧ T ≠ E
section
variable {W w w' : World} {S : Nat → Prop} {E E' : TypeId} {u v : Value} {xs : List Value} {p r n : Nat} {bs : List Bool} {h : HistV} {pv nv : Value} {L : List HP}
theorem Blk.of {s : Nat} {m : Nat} (o : w.ownsRow W.heap.size E' s v m xs) (hne : E' ≠ E) : Blk W w (fun k => v.ownBlock = some k) E := by
  intro j e
  obtain ⟨cur, hc⟩ := ownsRow_block o e
  exact ⟨(ownsRow_lt o e).2, cur, _, _, hc, hne⟩
theorem Blk.ne {T : TypeId} {cs : Array Value} {fr : Nat × Nat} {j : Nat} (b : Blk W w S T) (hj : w.heap[j]? = some (.cells cs T fr)) : ¬ S j := by
  intro e
  obtain ⟨_, cs', fr', T', h1, h2⟩ := b j e
  rw [hj] at h1
  injection h1 with h1
  injection h1 with _ h1
  exact h2 h1.symm
theorem Blk.own {s m : Nat} {base : Nat} (b : Blk W w S E) (o : w.ownsRow base E s v m xs) : ∀ k, v.ownBlock = some k → ¬ S k := by
  intro k e
  obtain ⟨cur, hc⟩ := ownsRow_block o e
  exact b.ne hc
theorem Mine.blk (m : Mine W w E u xs) (k : Kept S w w') (b : Blk W w S E) : Mine W w' E u xs := m.keptS k (b.own m.own) (fun j e => (b j e).1)
theorem MineH.blk (m : MineH W w u L) (k : Kept S w w') (b : Blk W w S 62) : MineH W w' u L := m.keptS k (b.own m.own) (fun j e => (b j e).1)
theorem HB.blk (x : HB W w p r v bs n h pv nv) (k : Kept S w w') (b1 : Blk W w S 80) (b2 : Blk W w S 97) (b3 : Blk W w S 5) (b4 : Blk W w S 28) : HB W w' p r v bs n h pv nv :=
  ⟨x.bw.kept k (b1.ne x.bw.box) (b3.own x.bw.owns), x.row.same k (b2.ne x.row), x.mp.blk k b4, x.mn.blk k b4, x.rb⟩
theorem HB.blkPut (x : HB W w p r v bs n h pv nv) (h1 : 80 ≠ E) (h2 : 97 ≠ E) (h3 : 5 ≠ E) : Blk W w (fun k => k = p ∨ k = r ∨ v.ownBlock = some k) E := by
  rintro j (rfl | rfl | e)
  · exact ⟨x.bw.base, _, _, _, x.bw.box, h1⟩
  · exact ⟨x.rb, _, _, _, x.row, h2⟩
  · obtain ⟨cur, hc⟩ := ownsRow_block x.bw.owns e
    exact ⟨(ownsRow_lt x.bw.owns e).2, cur, _, _, hc, h3⟩
end
theorem lastH_take (Fp : List HP) (n : Nat) (h : n ≤ Fp.length) : lastH (Fp.take n) = lastV (Fp.map HP.h) n := by
  unfold lastV
  cases n with
  | zero => rfl
  | succ n =>
    rw [if_neg (by omega)]
    have hg : (Fp.take (n + 1))[(Fp.take (n + 1)).length - 1]? = some Fp[n] := by
      rw [List.length_take, Nat.min_eq_left h, Nat.add_sub_cancel, List.getElem?_take_of_lt (by omega), List.getElem?_eq_getElem (by omega)]
    rw [lastH_at hg, Nat.add_sub_cancel, List.getD_eq_getElem?_getD, List.getElem?_map, List.getElem?_eq_getElem (by omega)]
    rfl
theorem okP_iff (p : HP) : okP p = true ↔ p.h.err = 0 := by unfold okP; exact beq_iff_eq
theorem err_lens {h : HistV} (he : h.err = 0) : h.pl.length ≤ 160 ∧ h.nl.length ≤ 160 := ⟨(sideE_zero (err_light he).2.1).1, (sideE_zero (err_light he).2.2.1).1⟩
/-- The last of the right ones is light. -/
theorem lastV_lens {Fp : List HP} (hF : ∀ p ∈ Fp, p.h.err = 0) (n : Nat) (hn : n ≤ Fp.length) : (lastV (Fp.map HP.h) n).pl.length ≤ 160 ∧ (lastV (Fp.map HP.h) n).nl.length ≤ 160 := by
  unfold lastV
  split
  · exact zeroH_light10
  · rw [List.getD_eq_getElem?_getD, List.getElem?_map, List.getElem?_eq_getElem (by omega)]
    exact err_lens (hF _ (List.getElem_mem _))
where
  zeroH_light10 : zeroH.pl.length ≤ 160 ∧ zeroH.nl.length ≤ 160 := ⟨Nat.zero_le _, Nat.zero_le _⟩
end Go.Proofs.YtjpnfadmblmjbaaDoor
/- Bits packed and opened again; the document's Bytes as a text. -/
namespace Go.Proofs.YtjpnfadmblmjbaaDoor
open Go.RowKit

theorem openE_packedH (bs : List Bool) : openE (packB bs) bs.length = 0 := by
  unfold openE
  have hl := packB_length bs
  rw [if_neg (by omega), if_neg (by omega), if_neg (by omega), Int.toNat_natCast]
  rw [open_rest _ _ (by omega) (by omega), packB_getD]
  by_cases h : 0 < bs.length % 8
  · have e : byteAt bs (bs.length / 8) % 2 ^ (8 - bs.length % 8) = 0 := by
      apply Nat.eq_of_testBit_eq
      intro i
      rw [Nat.testBit_mod_two_pow, byteAt_testBit, Nat.zero_testBit]
      by_cases hi : i < 8 - bs.length % 8
      · rw [List.getD_eq_getElem?_getD, List.getElem?_eq_none (by omega)]; simp
      · simp [hi]
    rw [e]; simp
  · have e : decide (0 < bs.length % 8) = false := decide_eq_false h
    rw [e]; simp
theorem bitsOf_packBH (bs : List Bool) : (bitsOf (packB bs)).take bs.length = bs := by
  apply List.ext_getElem?
  intro j
  rw [List.getElem?_take]
  by_cases h : j < bs.length
  · rw [if_pos h]
    have h1 := bitsOf_getD (packB bs) (j / 8) (7 - j % 8) (by omega)
    have e : 8 * (j / 8) + (7 - (7 - j % 8)) = j := by omega
    rw [e, packB_getD, byteAt_testBit, List.getD_eq_getElem?_getD, List.getD_eq_getElem?_getD, e] at h1
    have hj : j < (bitsOf (packB bs)).length := by rw [bitsOf_length, packB_length]; omega
    rw [List.getElem?_eq_getElem hj, List.getElem?_eq_getElem h] at h1 ⊢
    simp at h1 ⊢
    rw [h1]; simp; omega
  · rw [if_neg h, List.getElem?_eq_none (by omega)]
theorem refBytesStrH (v : Value) (bs : List Bool) (w : World) (hv : SlAt w v (ints bs)) (hl : bs.length ≤ 1000000000) :
    Calls Tryd.prog 18 #[v] w fun e w' => ∃ vb, e = .returned vb ∧ (∀ w'', Kept (fun _ => False) w' w'' → (convert 33 9 vb).run Tryd.prog w'' = .ok (.string (strN (packB bs))) w'') ∧ Kept (fun _ => False) w w' := by
  refine (refBytes_any v bs w hv hl).mono ?_
  rintro e w6 ⟨vb, rfl, ho, hk⟩
  exact ⟨vb, rfl, fun w'' hk2 => run_strN ((SlAt.ofOwn ho).kept hk2 (fun _ _ x => x)) 33 5 9 Tryd.underlying33 Tryd.underlying5 Tryd.underlying9, hk⟩
/-- The numbers of a row may be what counts are. -/
theorem lastV_ok {F : List HistV} (hF : ∀ h ∈ F, h.ok) (n : Nat) (hn : n ≤ F.length) : (lastV F n).ok := by
  unfold lastV
  split
  · exact ⟨by decide, by decide, by decide, by intro x hx; simp [zeroH] at hx, by decide, by intro x hx; simp [zeroH] at hx⟩
  · rw [List.getD_eq_getElem?_getD, List.getElem?_eq_getElem (by omega)]
    exact hF _ (List.getElem_mem _)
/-- Counts that are written over: the block and its places stay. -/
structure Over (B : Nat) (wb w : World) (a : Option Addr) (n c : Nat) : Prop where
  own : ∃ xs : List Value, xs.length = n ∧ w.ownsRow B 28 1 (.slice a n c) n xs
  kept : Kept (fun k => (Value.slice a n c).ownBlock = some k) wb w
theorem Over.set {B : Nat} {wb w : World} {g n c : Nat} (h : Over B wb w (some ⟨g, 0, none⟩) n c) (k : Nat) (x : Int) : Over B wb (w.setCell ⟨g, k, none⟩ (.int .u64 x)) (some ⟨g, 0, none⟩) n c := by
  obtain ⟨⟨xs, hl, ho⟩, hk⟩ := h
  exact ⟨⟨_, by rw [List.length_set]; exact hl, owns_set ho k _⟩, hk.setCell (p := ⟨g, k, none⟩) (fun _ => rfl) _⟩
theorem Over.at0 {B : Nat} {wb w : World} {a : Option Addr} {n c : Nat} (h : Over B wb w a n c) (hn : 0 < n) : ∃ g, a = some ⟨g, 0, none⟩ ∧ ∀ k, k < n → (∃ u, w.cell? ⟨g, k, none⟩ = some u) ∧ w.frozen? ⟨g, k, none⟩ = false := by
  obtain ⟨⟨xs, hl, ho⟩, _⟩ := h
  rcases ho.2 with ⟨e, _⟩ | ⟨g, cap, cur, e, hg, hb, rest⟩
  · omega
  · injection e with e1 e2 e3
    subst e1
    refine ⟨g, rfl, fun k hk => ⟨⟨xs[k], ?_⟩, by simp [World.frozen?, hb]⟩⟩
    have := ho.cells (g := g) rfl k xs[k] (List.getElem?_eq_getElem (by omega))
    rwa [addr_add0] at this
/-- A reader and a row stay while counts elsewhere are written over. -/
theorem HRd.over {W w w' : World} {p r t n B m : Nat} {v pv nv : Value} {bs : List Bool} {h : HistV} {a : Option Addr} {c : Nat} (x : HRd W w p r v bs t n h pv nv) (hB : W.heap.size ≤ B) (o : Over B w w' a m c) (o0 : ∃ xs : List Value, w.ownsRow B 28 1 (.slice a m c) m xs)
    (hap : ∀ k, (Value.slice a m c).ownBlock = some k → pv.ownBlock ≠ some k ∧ nv.ownBlock ≠ some k) : HRd W w' p r v bs t n h pv nv := by
  obtain ⟨xs, ho⟩ := o0
  have hk := o.kept
  have hge : ∀ k, (Value.slice a m c).ownBlock = some k → W.heap.size ≤ k := fun k e => Nat.le_trans hB (ownsRow_lt ho e).2
  refine ⟨x.br.kept hk (own_box ho x.br.box (by decide)) ?_, x.row.same hk (own_box ho x.row (by decide)), x.mp.keptS hk (fun k e e2 => (hap k e2).1 e) hge, x.mn.keptS hk (fun k e e2 => (hap k e2).2 e) hge, x.rb⟩
  intro k e e2
  obtain ⟨cur, hc⟩ := ownsRow_block x.br.owns e
  exact own_box ho hc (by decide) e2
end Go.Proofs.YtjpnfadmblmjbaaDoor
