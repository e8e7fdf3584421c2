/- Texts put together for a seat that lacks some of the functions: KF K2 K3 KA E0 (tools/strip.py). -/
import Derived.Lib.SmallJoins
import Derived.Test.YtiiibhdohlpodaaJf
-- KF
namespace Go.Proofs.Ytiiibhdohlpodaa
open Go.ChangeShapes Go.WideShapes Go.ChangeAt Go.RowKit

set_option maxRecDepth 100000 in
theorem side_open {H : Type} {enc : TypeId × Value → H} {W : World} {sp b0 : Nat} {r : Reach} {v : Value} {d : DataW H} {p : List MemPlace} (hv : Value.okWide Try.prog W r b0 28 v) (h : DataW.Trod enc Try.prog W sp (fun _ => true) true 28 v d p) :
    ∃ o l c1, v = .agg #[.int .i64 o, c1] ∧ SideIn W o l c1 := by
  obtain ⟨cs, rfl, hsz⟩ := okWide_struct Try.underlying28 hv
  have k2 : Try.prog.cellsOf 28 = 2 := by kernel_rfl
  obtain ⟨c0, c1, rfl⟩ := Go.Joins.array2 (hsz.trans k2)
  obtain ⟨fuel, hf⟩ := h
  obtain ⟨o, l, e, hs⟩ := side_cells (by simpa [Value.cells] using hf)
  exact ⟨o, l, c1, by rw [e], hs⟩

set_option maxRecDepth 100000 in
theorem hist_open {H : Type} {enc : TypeId × Value → H} {W : World} {sp b0 : Nat} {r : Reach} {v : Value} {d : DataW H} {p : List MemPlace} (hv : Value.okWide Try.prog W r b0 30 v) (h : DataW.Trod enc Try.prog W sp (fun _ => true) true 30 v d p) :
    ∃ x pv nv, v = histV x pv nv ∧ HistIn W x pv nv := by
  obtain ⟨cs, rfl, hsz⟩ := okWide_struct Try.underlying30 hv
  have k6 : Try.prog.cellsOf 30 = 6 := by kernel_rfl
  obtain ⟨c0, c1, c2, c3, c4, c5, rfl⟩ := array6 (hsz.trans k6)
  obtain ⟨fuel, hf⟩ := h
  obtain ⟨y0, y1, y2, y3, m, _, _, h0, h1, h2, h3⟩ := Go.Joins.trod_struct4 Try.underlying30 (cs := [c0, c1, c2, c3, c4, c5]) (by simpa [Value.cells] using hf)
  have k0 : Try.prog.cellsOf 3 = 1 := by kernel_rfl
  have k1 : Try.prog.cellsOf 25 = 1 := by kernel_rfl
  have k2 : Try.prog.cellsOf 28 = 2 := by kernel_rfl
  simp only [k0, k1, k2, List.drop_zero, List.drop_succ_cons, List.take_succ_cons, List.take_zero] at h0 h1 h2 h3
  cases m with
  | zero => simp [DataW.trod] at h0
  | succ m =>
  obtain ⟨sc, e0, _, w0⟩ := DataW.trod_int Try.underlying3 h0
  obtain ⟨ze, e1, _, w1⟩ := DataW.trod_int Try.underlying25 h1
  injection e0 with e0 _
  injection e1 with e1 _
  subst e0 e1
  obtain ⟨po, pl, rfl, hp⟩ := side_cells h2
  obtain ⟨no, nl, rfl, hn⟩ := side_cells h3
  have b0' := bd_i64 w0
  have b1' := bd_u64 w1
  refine ⟨⟨sc, ze.toNat, po, pl, no, nl⟩, c3, c5, ?_, ⟨hp.at_, hn.at_⟩, ⟨by simp only; omega, by simp only; omega, hp.io, hp.lt, hn.io, hn.lt⟩, hp.cap, hn.cap⟩
  unfold histV
  simp only
  rw [show ((ze.toNat : Nat) : Int) = ze by omega]
end Go.Proofs.Ytiiibhdohlpodaa

-- K2
namespace Go.Proofs.Ytiiibhdohlpodaa
open Go.RowKit
attribute [local go_sem ↓] Go.wp_at_zero Go.wp_at_succ

theorem TrimOf.len {o : Int} {l : List Nat} {o' : Int} {l' : List Nat} (h : TrimOf o l o' l') : l'.length ≤ l.length := by
  rcases h with ⟨_, _, rfl⟩ | ⟨a, b, _, _, _, _, _, _, _, rfl⟩
  · simp
  · rw [List.length_take, List.length_drop]; omega
theorem atP_all (o : Int) (l : List Nat) (i : Int) : atP o l l.length i = atN o l i := rfl
theorem atP_hit (o : Int) (l : List Nat) (m : Nat) : atP o l (m + 1) (o + (m : Int)) = l.getD m 0 := by
  unfold atP
  rw [if_pos (by omega), show (o + (m : Int) - o).toNat = m by omega]
theorem atP_miss (o : Int) (l : List Nat) (m : Nat) (i : Int) (h : o + (m : Int) ≠ i) : atP o l (m + 1) i = atP o l m i := by
  unfold atP
  have : (o ≤ i ∧ i < o + ((m + 1 : Nat) : Int)) ↔ (o ≤ i ∧ i < o + (m : Int)) := by omega
  simp only [this]

end Go.Proofs.Ytiiibhdohlpodaa

-- K3
namespace Go.Proofs.Ytiiibhdohlpodaa
open Go.RowKit
attribute [local go_sem ↓] Go.wp_at_zero Go.wp_at_succ

/-- A histogram in a block, its counts where it says. -/
structure HV (w : World) (q : Nat) (R : HistV) (pv nv : Value) : Prop where
  box : HistBox w q R pv nv
  at_ : HistAt w R pv nv
theorem HV.on {w w' : World} {q : Nat} {R : HistV} {pv nv : Value} (h : HV w q R pv nv) (k : Kept (fun _ => False) w w') : HV w' q R pv nv := ⟨h.box.same k (fun x => x), h.at_.on k⟩
theorem HV.mk' {W w : World} {R : HistV} {pv nv : Value} (h1 : Mine W w 25 pv (uvals R.pl)) (h2 : Mine W w 25 nv (uvals R.nl)) : HV (w.alloc (.cells #[.int .i64 R.sc, .int .u64 (R.ze : Int), .int .i64 R.po, pv, .int .i64 R.no, nv] 30)) w.heap.size R pv nv :=
  ⟨hist_boxed w R pv nv, (HistAt.mk h1.at_ h2.at_).on ((Kept.refl _ _).alloc _)⟩
theorem downH_len (h : HistV) (b : Nat) : (downH h b).pl.length ≤ h.pl.length ∧ (downH h b).nl.length ≤ h.nl.length := by
  unfold downH
  simp only [downL_length]
  exact ⟨dWidth_le _ _ _, dWidth_le _ _ _⟩
theorem downR_len (h : HistV) (b : Int) : (downR h b).pl.length ≤ h.pl.length ∧ (downR h b).nl.length ≤ h.nl.length := by
  unfold downR
  split
  · exact downH_len h _
  · unfold zeroH; simp
theorem FitOf.len {h : HistV} {most : Int} {R : HistV} {E : Nat} (f : FitOf h most R E) : R.pl.length ≤ h.pl.length ∧ R.nl.length ≤ h.nl.length := by
  rcases f with ⟨_, _, rfl⟩ | ⟨_, b, _, _, _, rfl, _⟩ | ⟨_, _, rfl, _⟩
  · unfold zeroH; simp
  · exact downH_len h b
  · unfold zeroH; simp

end Go.Proofs.Ytiiibhdohlpodaa

-- KA
namespace Go.Proofs.Ytiiibhdohlpodaa

theorem downH_total (h : HistV) (b : Nat) : (downH h b).total = h.total := by
  unfold HistV.total downH sumN
  simp only [downL_sum]
theorem downH_err (h : HistV) (b : Nat) (he : h.err = 0) (hb : (b : Int) ≤ h.sc + 10) : (downH h b).err = 0 := by
  obtain ⟨h1, h2, h3, h4⟩ := err_light he
  have t := downH_total h b
  unfold HistV.err
  rw [t]
  have e1 : (downH h b).sc = h.sc - (b : Int) := rfl
  have e2 : sideE (downH h b).po (downH h b).pl = 0 := sideE_down _ _ _ h2
  have e3 : sideE (downH h b).no (downH h b).nl = 0 := sideE_down _ _ _ h3
  rw [e1, if_neg (by omega), e2, e3, if_neg (by omega), if_neg (by omega), if_neg (by omega)]
theorem downH_two (h : HistV) (a b : Nat) : downH (downH h a) b = downH h (a + b) := by
  unfold downH
  simp only [downL_two', downO_two]
  congr 1
  omega
theorem downE_zero {h : HistV} {b : Int} (e : downE h b = 0) : h.err = 0 ∧ 0 ≤ b ∧ b ≤ h.sc + 10 := by
  unfold downE at e
  by_cases h1 : h.err ≠ 0
  · rw [if_pos h1] at e; exact absurd e h1
  · rw [if_neg h1] at e
    by_cases h2 : b < 0 ∨ h.sc + 10 < b
    · rw [if_pos h2] at e; omega
    · exact ⟨by omega, by omega, by omega⟩
theorem downE_mk {h : HistV} {b : Int} (h1 : h.err = 0) (h2 : 0 ≤ b) (h3 : b ≤ h.sc + 10) : downE h b = 0 := by
  unfold downE
  rw [if_neg (by omega), if_neg (by omega)]
theorem downR_ok {h : HistV} {b : Int} (e : downE h b = 0) : downR h b = downH h b.toNat := by unfold downR; rw [if_pos e]
theorem twice_bad (h : HistV) (a b : Int) (ha : 0 ≤ a) (hb : 0 ≤ b) (e : downE h a ≠ 0 ∨ downE (downR h a) b ≠ 0) : downE h (a + b) ≠ 0 := by
  intro hz
  obtain ⟨z1, z2, z3⟩ := downE_zero hz
  have e1 : downE h a = 0 := downE_mk z1 ha (by omega)
  rcases e with e | e
  · exact e e1
  · apply e
    rw [downR_ok e1]
    refine downE_mk (downH_err h _ z1 (by omega)) hb ?_
    show b ≤ h.sc - ((a.toNat : Nat) : Int) + 10
    omega
theorem twice_ok (h : HistV) (a b : Int) (e1 : downE h a = 0) (e2 : downE (downR h a) b = 0) : downE h (a + b) = 0 ∧ downR (downR h a) b = downR h (a + b) ∧ (downR h (a + b)).err = 0 ∧ (downR h (a + b)).total = h.total := by
  obtain ⟨a1, a2, a3⟩ := downE_zero e1
  have r1 := downR_ok e1
  have r2 := downR_ok e2
  obtain ⟨b1, b2, b3⟩ := downE_zero e2
  rw [r1] at b3
  have b3' : b ≤ h.sc - ((a.toNat : Nat) : Int) + 10 := b3
  have e3 : downE h (a + b) = 0 := downE_mk a1 (by omega) (by omega)
  refine ⟨e3, ?_, ?_, ?_⟩
  · rw [r2, r1, downR_ok e3, downH_two]
    congr 1
    omega
  · rw [downR_ok e3]; exact downH_err h _ a1 (by omega)
  · rw [downR_ok e3]; exact downH_total h _
theorem downR_ok' (h : HistV) (b : Int) (hok : h.ok) : (downR h b).ok := by
  unfold downR
  by_cases e : downE h b = 0
  · rw [if_pos e]
    obtain ⟨e1, e2, e3⟩ := downE_zero e
    have he := downH_err h b.toNat e1 (by omega)
    obtain ⟨h1, h2, h3, h4⟩ := err_light he
    have t := total_parts h4
    have s1 := (side_range h2).1
    have s2 := (side_range h3).1
    exact ⟨by omega, hok.ze, by omega, fun x hx => by have := mem_sum hx; omega, by omega, fun x hx => by have := mem_sum hx; omega⟩
  · rw [if_neg e]
    unfold zeroH
    exact ⟨by simp, by simp, by simp, by simp, by simp, by simp⟩
theorem atN_le (o i : Int) (l : List Nat) : atN o l i ≤ l.sum := by
  unfold atN
  split
  · exact getD_sum _ _
  · omega
theorem atN_pair (o k : Int) (l : List Nat) : atN o l (2 * k) + atN o l (2 * k + 1) ≤ l.sum := by
  rw [← atN_down, ← downL_sum o l 1]
  exact atN_le _ _ _
theorem one_bad {h : HistV} (e : downE h 1 ≠ 0) (he : h.err = 0) : h.sc = -10 := by
  obtain ⟨h1, _⟩ := err_light he
  unfold downE at e
  rw [if_neg (by omega)] at e
  by_cases h2 : (1 : Int) < 0 ∨ h.sc + 10 < 1
  · omega
  · rw [if_neg h2] at e; exact absurd rfl e
theorem one_ok {h : HistV} (e : downE h 1 = 0) (k : Int) : atN (downR h 1).po (downR h 1).pl k = atN h.po h.pl (2 * k) + atN h.po h.pl (2 * k + 1) ∧ atN (downR h 1).no (downR h 1).nl k = atN h.no h.nl (2 * k) + atN h.no h.nl (2 * k + 1) := by
  rw [downR_ok e]
  exact ⟨atN_down _ _ _, atN_down _ _ _⟩
theorem least_nat (p : Nat → Prop) : ∀ n, p n → ∃ b, b ≤ n ∧ p b ∧ ∀ a, a < b → ¬ p a := by
  intro n
  induction n using Nat.strongRecOn with
  | _ n ih =>
    intro h
    by_cases e : ∃ a, a < n ∧ p a
    · obtain ⟨a, h1, h2⟩ := e
      obtain ⟨b, h3, h4, h5⟩ := ih a h1 h2
      exact ⟨b, by omega, h4, h5⟩
    · exact ⟨n, Nat.le_refl _, h, fun a ha hp => e ⟨a, ha, hp⟩⟩
theorem downH_zero (h : HistV) (he : h.err = 0) : downH h 0 = h := by
  obtain ⟨h1, h2, h3, h4⟩ := err_light he
  unfold downH
  rw [downL_by0, downL_by0, downO_by0 _ _ (sideE_zero h2).2.1, downO_by0 _ _ (sideE_zero h3).2.1]
  simp
theorem nil_at (w : World) : HistAt w zeroH (.slice none 0 0) (.slice none 0 0) := ⟨⟨none, 0, rfl, fun _ => rfl, fun a e => by cases e⟩, ⟨none, 0, rfl, fun _ => rfl, fun a e => by cases e⟩⟩
end Go.Proofs.Ytiiibhdohlpodaa

-- E0
namespace Go.Proofs.Ytiiibhdohlpodaa
open Go.RowKit

/-- What is wrong with two histograms that are to be brought to one scale; what comes of them. -/
def levE (a b : HistV) : Nat := if a.err ≠ 0 then a.err else b.err
def levS (a b : HistV) : Int := if a.sc ≤ b.sc then a.sc else b.sc
def levX (a b : HistV) : HistV := if levE a b = 0 then downH a (a.sc - levS a b).toNat else zeroH
def levY (a b : HistV) : HistV := if levE a b = 0 then downH b (b.sc - levS a b).toNat else zeroH
def LevOut (w : World) (X Y : HistV) (E : Nat) (e : Ending) (w' : World) : Prop :=
  ∃ p1 n1 p2 n2, e = .returned (.tuple #[histV X p1 n1, histV Y p2 n2, .int .i64 (E : Int)]) ∧ Mine w w' 25 p1 (uvals X.pl) ∧ Mine w w' 25 n1 (uvals X.nl) ∧ Mine w w' 25 p2 (uvals Y.pl) ∧ Mine w w' 25 n2 (uvals Y.nl)
theorem lev_good {a b : HistV} (h1 : a.err = 0) (h2 : b.err = 0) : levE a b = 0 ∧ downE a (a.sc - levS a b) = 0 ∧ downE b (b.sc - levS a b) = 0 ∧ levX a b = downR a (a.sc - levS a b) ∧ levY a b = downR b (b.sc - levS a b) := by
  have e : levE a b = 0 := by unfold levE; rw [if_neg (by omega), h2]
  obtain ⟨⟨a1, a2⟩, _⟩ := err_light h1
  obtain ⟨⟨b1, b2⟩, _⟩ := err_light h2
  have hs : levS a b ≤ a.sc ∧ levS a b ≤ b.sc ∧ -10 ≤ levS a b := by unfold levS; split <;> omega
  have e1 : downE a (a.sc - levS a b) = 0 := downE_mk h1 (by omega) (by omega)
  have e2 : downE b (b.sc - levS a b) = 0 := downE_mk h2 (by omega) (by omega)
  refine ⟨e, e1, e2, ?_, ?_⟩
  · unfold levX downR; rw [if_pos e, if_pos e1]
  · unfold levY downR; rw [if_pos e, if_pos e2]
theorem lev_bad {a b : HistV} (h : levE a b ≠ 0) : levX a b = zeroH ∧ levY a b = zeroH := by unfold levX levY; rw [if_neg h, if_neg h]; exact ⟨rfl, rfl⟩
theorem levS_min (a b : HistV) : levS a b = min a.sc b.sc := by unfold levS; omega
theorem lev_end {fn : Func} {p r s : Tmp} {a : Act} {P : Ending → World → Prop} {w : World} {q q2 : Nat} {h h2 : HistV} {pv nv pv2 nv2 x : Value} (hres : fn.results = #[.cell p 30, .cell r 30, .tmp s]) (hp : a.tmps.getD p undef = .pointer (some ⟨q, 0, none⟩)) (hr : a.tmps.getD r undef = .pointer (some ⟨q2, 0, none⟩)) (hx : a.tmps.getD s undef = x) (hd : a.defers = [])
    (hg : HistBox w q h pv nv) (hg2 : HistBox w q2 h2 pv2 nv2) (hP : P (.returned (.tuple #[histV h pv nv, histV h2 pv2 nv2, x])) w) : bodyPost Try.prog fn P .ret a w := by
  refine bodyPost_ret (v := .tuple #[histV h pv nv, histV h2 pv2 nv2, x]) ?_ hd hP
  have hp' : a.tmps[p]?.getD undef = .pointer (some ⟨q, 0, none⟩) := by simpa using hp
  have hr' : a.tmps[r]?.getD undef = .pointer (some ⟨q2, 0, none⟩) := by simpa using hr
  have hx' : a.tmps[s]?.getD undef = x := by simpa using hx
  have hl := run_loadVar_row (P := Try.prog) w q 30 30 _ (0, 0) _ hg Try.underlying30 rfl hist_info
  have hl2 := run_loadVar_row (P := Try.prog) w q2 30 30 _ (0, 0) _ hg2 Try.underlying30 rfl hist_info
  simp [results, hres, hp', hr', hx', asAddr, hl, hl2, histV]

/-- Four boxes of Level. -/
structure LevBox (w wr : World) (a b x y : HistV) (ap an bp bn xp xn yp yn : Value) : Prop where
  a : HistBox wr w.heap.size a ap an
  b : HistBox wr (w.heap.size + 1) b bp bn
  x : HistBox wr (w.heap.size + 1 + 1) x xp xn
  y : HistBox wr (w.heap.size + 1 + 1 + 1) y yp yn
theorem LevBox.on {w wr w' : World} {a b x y : HistV} {ap an bp bn xp xn yp yn : Value} (h : LevBox w wr a b x y ap an bp bn xp xn yp yn) (k : Kept (fun _ => False) wr w') : LevBox w w' a b x y ap an bp bn xp xn yp yn :=
  ⟨h.a.same k (fun x => x), h.b.same k (fun x => x), h.x.same k (fun x => x), h.y.same k (fun x => x)⟩
theorem LevBox.mk0 (w : World) (a b : HistV) (ap an bp bn : Value) : LevBox w ((((w.alloc (.cells #[.int .i64 a.sc, .int .u64 (a.ze : Int), .int .i64 a.po, ap, .int .i64 a.no, an] 30)).alloc (.cells #[.int .i64 b.sc, .int .u64 (b.ze : Int), .int .i64 b.po, bp, .int .i64 b.no, bn] 30)).alloc (.cells #[.int .i64 0, .int .u64 0, .int .i64 0, .slice none 0 0, .int .i64 0, .slice none 0 0] 30)).alloc (.cells #[.int .i64 0, .int .u64 0, .int .i64 0, .slice none 0 0, .int .i64 0, .slice none 0 0] 30)) a b zeroH zeroH ap an bp bn (.slice none 0 0) (.slice none 0 0) (.slice none 0 0) (.slice none 0 0) := by
  have k := fun (w : World) o => (Kept.refl (fun _ => False) w).alloc o
  refine ⟨?_, ?_, ?_, ?_⟩
  · exact (((hist_boxed w a ap an).same (k _ _) (fun x => x)).same (k _ _) (fun x => x)).same (k _ _) (fun x => x)
  · have := hist_boxed (w.alloc (.cells #[.int .i64 a.sc, .int .u64 (a.ze : Int), .int .i64 a.po, ap, .int .i64 a.no, an] 30)) b bp bn
    rw [show (w.alloc (.cells #[.int .i64 a.sc, .int .u64 (a.ze : Int), .int .i64 a.po, ap, .int .i64 a.no, an] 30)).heap.size = w.heap.size + 1 by simp] at this
    exact (this.same (k _ _) (fun x => x)).same (k _ _) (fun x => x)
  · have := hist_alloc ((w.alloc (.cells #[.int .i64 a.sc, .int .u64 (a.ze : Int), .int .i64 a.po, ap, .int .i64 a.no, an] 30)).alloc (.cells #[.int .i64 b.sc, .int .u64 (b.ze : Int), .int .i64 b.po, bp, .int .i64 b.no, bn] 30))
    rw [show ((w.alloc (.cells #[.int .i64 a.sc, .int .u64 (a.ze : Int), .int .i64 a.po, ap, .int .i64 a.no, an] 30)).alloc (.cells #[.int .i64 b.sc, .int .u64 (b.ze : Int), .int .i64 b.po, bp, .int .i64 b.no, bn] 30)).heap.size = w.heap.size + 1 + 1 by simp] at this
    exact this.same (k _ _) (fun x => x)
  · have := hist_alloc (((w.alloc (.cells #[.int .i64 a.sc, .int .u64 (a.ze : Int), .int .i64 a.po, ap, .int .i64 a.no, an] 30)).alloc (.cells #[.int .i64 b.sc, .int .u64 (b.ze : Int), .int .i64 b.po, bp, .int .i64 b.no, bn] 30)).alloc (.cells #[.int .i64 0, .int .u64 0, .int .i64 0, .slice none 0 0, .int .i64 0, .slice none 0 0] 30))
    rw [show (((w.alloc (.cells #[.int .i64 a.sc, .int .u64 (a.ze : Int), .int .i64 a.po, ap, .int .i64 a.no, an] 30)).alloc (.cells #[.int .i64 b.sc, .int .u64 (b.ze : Int), .int .i64 b.po, bp, .int .i64 b.no, bn] 30)).alloc (.cells #[.int .i64 0, .int .u64 0, .int .i64 0, .slice none 0 0, .int .i64 0, .slice none 0 0] 30)).heap.size = w.heap.size + 1 + 1 + 1 by simp] at this
    exact this
end Go.Proofs.Ytiiibhdohlpodaa

