/- Layer 7: the document's Get, whole; a reader, a writer and the rows with them; the walk of 'XorTakes'. -/
import Derived.Test.YtaagjedkojlbpaaDoorW23
import Derived.Test.YtaagjedkojlbpaaDoorW24
import Derived.Deep.CutBlock
namespace Go.Proofs.YtaagjedkojlbpaaDoor
open Go.RowKit
attribute [local go_sem ↓] Go.wp_at_zero Go.wp_at_succ
theorem rget_any (sv : Value) (l0 : List Nat) (f s : Nat) (lo : Option Addr) (lc : Nat) (l : List Bool) (w : World) (hs : SlAt w sv (xvals l0)) (hv : SlAt w (.slice lo l.length lc) (ints l)) (hcap : l.length ≤ lc) (hl0 : l0.length ≤ 1000000) (hl : l.length ≤ 100000000) (hb : ∀ x ∈ l0, x < 18446744073709551616) (hok : okW f s) :
    Calls Tryd.prog 42 #[stV sv f s, .slice lo l.length lc] w (RGot w l0 (getP l0.length (lastN l0 l0.length) f s l).1 (getP l0.length (lastN l0 l0.length) f s l).2.1 (getP l0.length (lastN l0 l0.length) f s l).2.2.1 (getP l0.length (lastN l0 l0.length) f s l).2.2.2.1 (getP l0.length (lastN l0 l0.length) f s l).2.2.2.2) := by
  by_cases hz : l0 = []
  · have h := rget_zero sv l0 f s lo lc l w hs hv hcap hl0 hl hz
    have e : getP l0.length (lastN l0 l0.length) f s l = ((getZ l).1, (getZ l).2.1, (getZ l).2.2, f, s) := by
      subst hz
      unfold getP getZ
      rw [if_pos (show ([] : List Nat).length = 0 from rfl)]
      by_cases h : l.length < 64
      · rw [if_pos h, if_pos h]
      · rw [if_neg h, if_neg h]
    rw [e]
    exact h
  · have h0 : 1 ≤ l0.length := by
      rcases Nat.eq_zero_or_pos l0.length with h | h
      · exact absurd (List.eq_nil_of_length_eq_zero h) hz
      · exact h
    have hgp : ∀ X N E F S, getX f s l = (X, N, E, F, S) → getP l0.length (lastN l0 l0.length) f s l = (if E = 0 then lastN l0 l0.length ^^^ X else 0, N, E, F, S) := by
      intro X N E F S h
      unfold getP
      rw [if_neg (by omega), h]
    rcases refX_cases f s l hok with ⟨h, e⟩ | ⟨h, hb0, e⟩ | ⟨h, hb0, e⟩ | ⟨h, hb0, hb1, h13, e⟩ | ⟨h, hb0, A, F, S, hw, hA, hF2, hS2, hc⟩
    · rw [hgp _ _ _ _ _ e]
      exact rget_c1 sv l0 f s lo lc l w hs hv hcap hl0 hl h0 hb h
    · rw [hgp _ _ _ _ _ e, if_pos rfl, Nat.xor_zero]
      exact rget_c2 sv l0 f s lo lc l w hs hv hcap hl0 hl h0 hb h hb0
    · rw [hgp _ _ _ _ _ e]
      exact rget_c3 sv l0 f s lo lc l w hs hv hcap hl0 hl h0 hb h hb0
    · rw [hgp _ _ _ _ _ e]
      exact rget_c4 sv l0 f s lo lc l w hs hv hcap hl0 hl h0 hb h h13 hb0 hb1
    · rcases hw with ⟨hb1, hA2, hFf, hSs⟩ | ⟨hb1, hA2, hFe, hSe⟩
      · have hf' := hFf.symm
        have hs' := hSs.symm
        subst hA2 hf' hs'
        rcases hc with ⟨hc, e⟩ | ⟨h1, h2, h3, e⟩ | ⟨h1, h2, h3, x, hx, hxl, ⟨hne, e⟩ | ⟨heq, e⟩⟩
        · rw [hgp _ _ _ _ _ e]
          by_cases hS0 : s = 0
          · exact rget_w1_1 sv l0 f s lo lc l w hs hv hcap hl0 hl h0 hb h hb0 hb1 hok hS0
          · exact rget_w1_2 sv l0 f s lo lc l w hs hv hcap hl0 hl h0 hb h hb0 hb1 hok (by omega) (by omega)
        · rw [hgp _ _ _ _ _ e]
          exact rget_w1_3 sv l0 f s lo lc l w hs hv hcap hl0 hl h0 hb h hb0 hb1 hok h1 h2 h3
        · rw [hgp _ _ _ _ _ e]
          by_cases hlen : (putX f s x).1.length = 2 + s
          · exact rget_w1_5 sv l0 f s lo lc l w hs hv hcap hl0 hl h0 hb h hb0 hb1 hok h1 h2 h3 x hx hxl hlen hne
          · exact rget_w1_4 sv l0 f s lo lc l w hs hv hcap hl0 hl h0 hb h hb0 hb1 hok h1 h2 h3 x hx hxl hlen
        · rw [hgp _ _ _ _ _ e, if_pos rfl]
          exact rget_w1_6 sv l0 f s lo lc l w hs hv hcap hl0 hl h0 hb h hb0 hb1 hok h1 h2 h3 x hx hxl heq
      · subst hA2
        rcases hc with ⟨hc, e⟩ | ⟨h1, h2, h3, e⟩ | ⟨h1, h2, h3, x, hx, hxl, ⟨hne, e⟩ | ⟨heq, e⟩⟩
        · rw [hgp _ _ _ _ _ e]
          by_cases hS0 : S = 0
          · exact rget_w2_1 sv l0 f s lo lc l w hs hv hcap hl0 hl h0 hb F S hFe hSe hA h hb0 hb1 hok hS0
          · exact rget_w2_2 sv l0 f s lo lc l w hs hv hcap hl0 hl h0 hb F S hFe hSe hA h hb0 hb1 hok (by omega) (by omega)
        · rw [hgp _ _ _ _ _ e]
          exact rget_w2_3 sv l0 f s lo lc l w hs hv hcap hl0 hl h0 hb F S hFe hSe hA h hb0 hb1 hok h1 h2 h3
        · rw [hgp _ _ _ _ _ e]
          by_cases hlen : (putX f s x).1.length = 13 + S
          · exact rget_w2_5 sv l0 f s lo lc l w hs hv hcap hl0 hl h0 hb F S hFe hSe hA h hb0 hb1 hok h1 h2 h3 x hx hxl hlen hne
          · exact rget_w2_4 sv l0 f s lo lc l w hs hv hcap hl0 hl h0 hb F S hFe hSe hA h hb0 hb1 hok h1 h2 h3 x hx hxl hlen
        · rw [hgp _ _ _ _ _ e, if_pos rfl]
          exact rget_w2_6 sv l0 f s lo lc l w hs hv hcap hl0 hl h0 hb F S hFe hSe hA h hb0 hb1 hok h1 h2 h3 x hx hxl heq
theorem run_cutLX {P : Program} {t E : TypeId} {i : TypeInfo} (ht : P.underlying t = some (.slice E)) (hi : P.info? E = some i) (hs : i.size = 1) (a : Option Addr) (len cap lo : Nat) (hlo : lo ≤ len) (w : World) :
    (Instr.slice t (.slice a len cap) (some (.int .i64 (lo : Int))) none none).run P w = .ok (.slice (if cap = lo then a else a.map (·.add lo)) (len - lo) (cap - lo)) w := by
  have he : P.elem t = E := by simp [Program.elem, ht]
  rw [run_slice_l w t a len cap (by rw [he]; exact ht) .i64 lo (by omega) (by omega), he]
  simp [sizeOf, typeInfo, hi, hs, sliced]
theorem run_cutLXAt {P : Program} {t E : TypeId} {i : TypeInfo} (ht : P.underlying t = some (.slice E)) (hi : P.info? E = some i) (hs : i.size = 1) (a : Option Addr) (len cap lo : Nat) (hlo : lo ≤ len) (w : World) :
    (Instr.sliceAt t (.slice a len cap) (some (.int .i64 (lo : Int))) none none).run P w = .ok (.slice (if cap = lo then a else a.map (·.add lo)) (len - lo) (cap - lo)) w := by
  have he : P.elem t = E := by simp [Program.elem, ht]
  rw [run_sliceAt_slice w t _ _ _ _ (by rw [he]; exact ht)]
  exact run_cutLX ht hi hs a len cap lo hlo w
theorem SlAt.cutLX {w : World} {ao : Option Addr} {n c : Nat} {xs : List Value} (h : SlAt w (.slice ao n c) xs) {lo : Nat} (h1 : lo ≤ n) (h3 : n ≤ c) :
    SlAt w (.slice (if c = lo then ao else ao.map (·.add lo)) (n - lo) (c - lo)) (xs.drop lo) := by
  have := h.cut (lo := lo) (hi := n) h1 (Nat.le_refl _) h3
  rwa [List.take_of_length_le (by rw [List.length_drop, h.len]; exact Nat.le_refl _)] at this
theorem own_capX {w : World} {B : Nat} {E : TypeId} {a : Option Addr} {n c : Nat} {xs : List Value} (h : w.ownsRow B E 1 (.slice a n c) n xs) : n ≤ c := by
  rcases h.2 with ⟨e, h0⟩ | ⟨g, cap, cur, e, _, _, hc, _⟩
  · omega
  · cases e; exact hc
theorem openE_allX (l : List Nat) : openE l ((8 * l.length : Nat) : Int) = 0 := by have := openE_full l; rw [show ((8 * l.length : Nat) : Int) = 8 * (l.length : Int) by omega]; exact this

theorem snoc_facts (A : List Nat) (V : Nat) : (A ++ [V]).length = A.length + 1 ∧ lastN (A ++ [V]) (A.length + 1) = V ∧
    rowX (A ++ [V]) (A.length + 1) = rowX A A.length ++ (nextP A.length (lastN A A.length) (winX A A.length).1 (winX A A.length).2 V).1 ∧
    winX (A ++ [V]) (A.length + 1) = (nextP A.length (lastN A A.length) (winX A A.length).1 (winX A A.length).2 V).2 := by
  obtain ⟨h1, h2⟩ := rowX_snoc A V
  refine ⟨by simp, ?_, h1, h2⟩
  rw [lastN_succ]
  simp [List.getD_eq_getElem?_getD]
/-- What a row goes on with. -/
def gotA (A : List Nat) (l : List Bool) : Nat × Nat × Nat × Nat × Nat := getP A.length (lastN A A.length) (winX A A.length).1 (winX A A.length).2 l
theorem gotA_next (A : List Nat) (l : List Bool) (V N F S : Nat) (hb : ∀ x ∈ A, x < 18446744073709551616) (h : gotA A l = (V, N, 0, F, S)) :
    nextP A.length (lastN A A.length) (winX A A.length).1 (winX A A.length).2 V = (l.take N, F, S) := by
  have := nextP_got A.length (lastN A A.length) (winX A A.length).1 (winX A A.length).2 l (winX_ok hb A.length) (by unfold gotA at h; rw [h])
  unfold gotA at h
  rw [h] at this
  exact this

/-- What XorTakes holds: a reader and a row (of the floats R), the document's row (B), a writer and a row (A), the document's bits. -/
structure TX (W w : World) (p rx pw ry sq : Nat) (rv v sv lv : Value) (bs : List Bool) (t : Nat) (R B A : List Nat) : Prop where
  rd : RRX W w p rx rv bs t R.length (lastN R R.length) (winX R R.length).1 (winX R R.length).2
  wx : RX W w pw ry v A A.length
  st : StBox w sq sv (winX B B.length).1 (winX B B.length).2
  sl : Mine W w 28 sv (xvals B)
  ml : Mine W w 3 lv (ints bs)
  sb : W.heap.size ≤ sq
  ne : rx ≠ ry
  nv : ∀ k, rv.ownBlock = some k → v.ownBlock ≠ some k
section
variable {W w w' : World} {p rx pw ry sq t N : Nat} {rv v sv lv : Value} {bs : List Bool} {R B A : List Nat} {V F S : Nat}
theorem TX.on (h : TX W w p rx pw ry sq rv v sv lv bs t R B A) (hk : Kept (fun _ => False) w w') : TX W w' p rx pw ry sq rv v sv lv bs t R B A :=
  ⟨h.rd.on hk, h.wx.on hk, h.st.same hk (fun x => x), h.sl.on hk, h.ml.on hk, h.sb, h.ne, h.nv⟩
theorem TX.keptR (h : TX W w p rx pw ry sq rv v sv lv bs t R B A) (hk : Kept (fun k => k = p ∨ k = rx) w w') {t' : Nat} {R' : List Nat} (hr : RRX W w' p rx rv bs t' R'.length (lastN R' R'.length) (winX R' R'.length).1 (winX R' R'.length).2) : TX W w' p rx pw ry sq rv v sv lv bs t' R' B A := by
  have hwr : XRow w ry A.length (lastN A A.length) (winX A A.length).1 (winX A A.length).2 := h.wx.row
  have hbx := h.wx.bw.box
  have hs : ∀ k, (k = p ∨ k = rx) → W.heap.size ≤ k := by
    rintro k (rfl | rfl)
    · exact h.rd.rd.base
    · exact h.rd.base
  have n1 := boxT hbx h.rd.rd.box (by decide)
  have n2 := boxT hbx h.rd.row (by decide)
  have n3 := boxT hwr h.rd.rd.box (by decide)
  have n4 := boxT h.st h.rd.rd.box (by decide)
  have n5 := boxT h.st h.rd.row (by decide)
  refine ⟨hr, WX.keptS h.wx hk ?_ ?_ ?_ hs, h.st.same hk ?_, h.sl.keptS hk ?_ hs, h.ml.keptS hk ?_ hs, h.sb, h.ne, h.nv⟩
  · rintro (e | e)
    · exact n1 e
    · exact n2 e
  · rintro k e (rfl | rfl)
    · exact ownT h.wx.bw.owns h.rd.rd.box (by decide) e
    · exact ownT h.wx.bw.owns h.rd.row (by decide) e
  · rintro (e | e)
    · exact n3 e
    · exact h.ne e.symm
  · rintro (e | e)
    · exact n4 e
    · exact n5 e
  · rintro k e (rfl | rfl)
    · exact ownT h.sl.own h.rd.rd.box (by decide) e
    · exact ownT h.sl.own h.rd.row (by decide) e
  · rintro k e (rfl | rfl)
    · exact ownT h.ml.own h.rd.rd.box (by decide) e
    · exact ownT h.ml.own h.rd.row (by decide) e
/-- A float was taken. -/
theorem TX.got (h : TX W w p rx pw ry sq rv v sv lv bs t R B A) (hb : ∀ x ∈ R, x < 18446744073709551616) (hg : gotA R (bs.drop t) = (V, N, 0, F, S)) {e : Ending}
    (g : XGot w W.heap.size p rx rv bs (t + N) (R.length + 1) V F S V 0 e w') : e = .returned (.tuple #[.int .u64 (V : Int), .int .i64 0]) ∧ TX W w' p rx pw ry sq rv v sv lv bs (t + N) (R ++ [V]) B A := by
  have hn := gotA_next R _ V N F S hb hg
  obtain ⟨s1, s2, _, s4⟩ := snoc_facts R V
  have k := g.2.2.2
  obtain ⟨he, hr⟩ := h.rd.got g
  refine ⟨he, h.keptR k ?_⟩
  rw [s1, s2, s4, hn]
  exact hr
/-- No float was taken. -/
theorem TX.no {E : Nat} (h : TX W w p rx pw ry sq rv v sv lv bs t R B A) {e : Ending}
    (g : XGot w W.heap.size p rx rv bs t R.length (lastN R R.length) (winX R R.length).1 (winX R R.length).2 0 E e w') : e = .returned (.tuple #[.int .u64 ((0 : Nat) : Int), .int .i64 (E : Int)]) ∧ TX W w' p rx pw ry sq rv v sv lv bs t R B A := by
  have k := g.2.2.2
  obtain ⟨he, hr⟩ := h.rd.got g
  exact ⟨he, h.keptR k hr⟩
/-- The document's row goes on. -/
theorem TX.setSt (h : TX W w p rx pw ry sq rv v sv lv bs t R B A) (hb : ∀ x ∈ B, x < 18446744073709551616) {l : List Bool} (hg : gotA B l = (V, N, 0, F, S)) (sv' : Value) (hm : Mine W w 28 sv' (xvals (B ++ [V]))) :
    TX W (set3 w sq sv' (.int .i64 (F : Int)) (.int .i64 (S : Int))) p rx pw ry sq rv v sv' lv bs t R (B ++ [V]) A := by
  have hn := gotA_next B _ V N F S hb hg
  obtain ⟨s1, s2, _, s4⟩ := snoc_facts B V
  have k := set3_kept w sq sv' (.int .i64 (F : Int)) (.int .i64 (S : Int))
  have hwr : XRow w ry A.length (lastN A A.length) (winX A A.length).1 (winX A A.length).2 := h.wx.row
  have n1 := boxT h.wx.bw.box h.st (by decide)
  have n3 := boxT hwr h.st (by decide)
  have n4 := boxT h.st h.rd.rd.box (by decide)
  have n5 := boxT h.st h.rd.row (by decide)
  have hs : ∀ k, k = sq → W.heap.size ≤ k := fun k e => by have := h.sb; omega
  refine ⟨⟨h.rd.rd.kept k (fun e => n4 e.symm) (fun k e x => ownT h.rd.rd.owns h.st (by decide) (by rw [e, x])), h.rd.row.kept k (fun e => n5 e.symm), h.rd.base, h.rd.kept.newer k hs⟩,
    WX.keptS h.wx k n1 (fun k e x => ownT h.wx.bw.owns h.st (by decide) (by rw [e, x])) n3 hs, ?_, hm.keptS k (fun k e x => ownT hm.own h.st (by decide) (by rw [e, x])) hs, h.ml.keptS k (fun k e x => ownT h.ml.own h.st (by decide) (by rw [e, x])) hs, h.sb, h.ne, h.nv⟩
  rw [s1, s4, hn]
  exact h.st.set sv' F S
/-- A float is put down. -/
theorem TX.yput (h : TX W w p rx pw ry sq rv v sv lv bs t R B A) {e : Ending} (ht : XPut w W.heap.size pw ry v (rowX A A.length) A.length (lastN A A.length) (winX A A.length).1 (winX A A.length).2 V e w') :
    e = .returned (.tuple #[]) ∧ ∃ v', TX W w' p rx pw ry sq rv v' sv lv bs t R B (A ++ [V]) := by
  obtain ⟨s1, s2, s3, s4⟩ := snoc_facts A V
  have hwx : WX W w pw ry v (rowX A A.length) A.length (lastN A A.length) (winX A A.length).1 (winX A A.length).2 := h.wx
  have hbx := hwx.bw.box
  have hry := hwx.row
  have hs : ∀ k, (k = pw ∨ v.ownBlock = some k ∨ k = ry) → W.heap.size ≤ k := by
    rintro k (rfl | e | rfl)
    · exact hwx.bw.base
    · exact (ownsRow_lt hwx.bw.owns e).2
    · exact hwx.base
  obtain ⟨he, hr, v', h1, a1, k⟩ := ht
  have n1 := boxT hbx h.rd.rd.box (by decide)
  have n2 := boxT hbx h.rd.row (by decide)
  have n3 := boxT hry h.rd.rd.box (by decide)
  have n4 := boxT h.st hbx (by decide)
  have n5 := boxT h.st hry (by decide)
  refine ⟨he, v', ⟨⟨h.rd.rd.kept k ?_ ?_, h.rd.row.kept k ?_, h.rd.base, h.rd.kept.newer k hs⟩, ?_, h.st.same k ?_, h.sl.keptS k ?_ hs, h.ml.keptS k ?_ hs, h.sb, h.ne, ?_⟩⟩
  · rintro (e | e | e)
    · exact n1 e.symm
    · exact ownT hwx.bw.owns h.rd.rd.box (by decide) e
    · exact n3 e.symm
  · rintro k e (e2 | e2 | e2)
    · subst e2; exact ownT h.rd.rd.owns hbx (by decide) e
    · exact h.nv k e e2
    · subst e2; exact ownT h.rd.rd.owns hry (by decide) e
  · rintro (e | e | e)
    · exact n2 e.symm
    · exact ownT hwx.bw.owns h.rd.row (by decide) e
    · exact h.ne e
  · unfold RX
    rw [s1, s2, s3, s4]
    exact ⟨h1, hr, hwx.base, hwx.kept.newer k hs⟩
  · rintro (e | e | e)
    · exact n4 e
    · exact ownT hwx.bw.owns h.st (by decide) e
    · exact n5 e
  · rintro k e (e2 | e2 | e2)
    · subst e2; exact ownT h.sl.own hbx (by decide) e
    · exact ownO h.sl.own hwx.bw.owns (by decide) k e e2
    · subst e2; exact ownT h.sl.own hry (by decide) e
  · rintro k e (e2 | e2 | e2)
    · subst e2; exact ownT h.ml.own hbx (by decide) e
    · exact ownO h.ml.own hwx.bw.owns (by decide) k e e2
    · subst e2; exact ownT h.ml.own hry (by decide) e
  · intro k e e2
    rcases a1 with a1 | ⟨g, e3, hg⟩
    · exact h.nv k e (a1 ▸ e2)
    · rw [e3] at e2; cases e2; have := (ownsRow_lt h.rd.rd.owns e).1; omega
end
set_option maxHeartbeats 4000000 in
set_option maxRecDepth 100000 in
theorem xorTakes_walk0 (ao : Option Addr) (ca : Nat) (l : List Nat) (n : Nat) (W : World) (hv : SlAt W (.slice ao l.length ca) (bys l)) (hl : l.length ≤ 80) (hb : ∀ x ∈ l, x < 256) (hn : n ≤ 60) (HT : BruTab W) :
    Calls Tryd.prog 8 #[.slice ao l.length ca, .int .i64 n] W fun e w' => e = .returned (.bool true) ∧ Kept (fun _ => False) W w' := by
  obtain ⟨iI, hiI, hzI0, hzI1, hzI2⟩ := info_parts Tryd.infoInt
  have HAW := Lib.hid (awake7_any W HT)
  have HTT := Lib.hid HT
  have hlt := HT.lt
  have q60 : ¬ (80 : Int) < (l.length : Int) := by omega
  have q60b : decide (80 < l.length) = false := decide_eq_false (by omega)
  have q61 : ¬ (n : Int) < 0 := by omega
  have q62 : ¬ (60 : Int) < (n : Int) := by omega
  have q62b : decide (60 < n) = false := decide_eq_false (by omega)
  have HOP := Lib.hid fun w' (h : Kept (fun _ => False) W w') => bopen_yes _ l (8 * l.length) w' (hv.kept h (fun _ _ x => x)) (by omega) hb (openE_allX l)
  have HBT := Lib.hid fun w' (h : Kept (fun _ => False) W w') => refBits_any _ l w' (hv.kept h (fun _ _ x => x)) (by omega) hb
  rw [show (bitsOf l).take (8 * l.length) = bitsOf l from List.take_of_length_le (by rw [bitsOf_length]; exact Nat.le_refl _)] at HOP
  have hbl := bitsOf_length l
  obtain ⟨bs, hbs⟩ : ∃ bs, bs = bitsOf l := ⟨_, rfl⟩
  rw [← hbs] at HOP HBT hbl
  obtain ⟨Nb, hN⟩ : ∃ N, N = 8 * l.length := ⟨_, rfl⟩
  have n1 : 8 * (l.length : Int) = (Nb : Int) := by omega
  have n2 : IntKind.i64.wrap (8 * (l.length : Int)) = (Nb : Int) := by rw [n1]; exact IntWalk.i64_in _ ⟨by omega, by omega⟩
  rw [← hN] at HOP hbl
  have HBL := Lib.hid hbl
  have HNN := Lib.hid (show Nb ≤ 640 by omega)
  have HBN := Lib.hid bnew_any
  have HRN := Lib.hid xnewRow_any
  have HNS := Lib.hid hn
  clear HT hv hb hbs hN hbl
  go_enter Tryd.func8, Tryd.ntmps8
  go_wp2_with fail
  refine HAW.out.mono ?_
  rintro e w0 ⟨rfl, k0⟩
  have K0 := Lib.hid k0
  clear k0
  go_wp2_with fail
  refine (HOP.out _ K0.out).mono ?_
  rintro e w1 ⟨p, rv, rfl, hr, k1⟩
  have K1 := Lib.hid (K0.out.trans k1)
  have HR := Lib.hid (hr.downX (Kept.size K0.out))
  clear hr k1
  go_wp2_with fail
  refine (HBT.out _ K1.out).mono ?_
  rintro e w2 ⟨lv, rfl, ho, k2⟩
  obtain ⟨lo, lc, rfl⟩ := ownsRow_slice ho
  have hcap := own_capX ho
  have hm : Mine W w2 3 (.slice lo (ints bs).length lc) (ints bs) := (Mine.ofFresh ho k2).down K1.out
  rw [ints_length] at hm hcap
  rw [ints_length]
  have HM := Lib.hid (show Mine W w2 3 (.slice lo bs.length lc) (ints bs) from hm)
  have HR2 := Lib.hid (HR.out.keptF k2)
  rw [HBL.out] at HM hcap ⊢
  clear ho k2 hm
  go_wp2_with fail
  refine (HRN.out w2).mono ?_
  rintro e w3 ⟨rfl, hx3, k3⟩
  obtain ⟨rx, hrx⟩ : ∃ r, r = w2.heap.size := ⟨_, rfl⟩
  rw [← hrx] at hx3 ⊢
  have hrx2 := hx3.lt
  have hrxW : W.heap.size ≤ rx := by have := HM.out.kept.size; omega
  clear hrx
  go_wp2_with fail
  refine (HRN.out w3).mono ?_
  rintro e w4 ⟨rfl, hy4, k4⟩
  obtain ⟨ry, hry⟩ : ∃ r, r = w3.heap.size := ⟨_, rfl⟩
  have hne : rx ≠ ry := by omega
  have hryW : W.heap.size ≤ ry := by have := HM.out.kept.size; have := k3.size; omega
  rw [← hry] at hy4 ⊢
  clear hry hrx2
  go_wp2_with fail
  refine (HBN.out w4).mono ?_
  rintro e w5 ⟨rfl, hw5⟩
  have k34 := (HM.out.kept.trans k3).trans k4
  have H0 := bnew_at W.heap.size w4 k34.size
  rw [← hw5] at H0
  have k5 : Kept (fun _ => False) w4 w5 := by rw [hw5]; exact (Kept.refl _ _).alloc _
  obtain ⟨pw, hpw⟩ : ∃ p, p = w4.heap.size := ⟨_, rfl⟩
  rw [← hpw] at H0 ⊢
  have k6 := (Kept.refl (fun _ => False) w5).alloc (.cells #[.slice none 0 0, .int .i64 0, .int .i64 0] 63)
  obtain ⟨w6, hw6⟩ : ∃ w', w' = w5.alloc (.cells #[.slice none 0 0, .int .i64 0, .int .i64 0] 63) := ⟨_, rfl⟩
  have hst : StBox w6 w5.heap.size (.slice none 0 0) 0 0 := by rw [hw6]; exact heap_alloc_new w5 _
  rw [← hw6] at k6
  have kx := (k4.trans k5).trans k6
  have kW : Kept (fun _ => False) W w6 := (k34.trans k5).trans k6
  have HTX0 := Lib.hid (show TX W w6 p rx pw ry w5.heap.size rv (.slice none 0 0) (.slice none 0 0) (.slice lo Nb lc) bs 0 [] [] [] from
    ⟨⟨((HR2.out.keptF k3).keptF kx), hx3.kept kx (fun x => x), hrxW, kW⟩, ⟨H0.keptF k6, hy4.kept (k5.trans k6) (fun x => x), hryW, kW⟩, hst, Mine.nil' _ kW, HM.out.on (k3.trans kx), ((k34.trans k5)).size, hne, (fun k _ e => by cases e)⟩)
  have HW6 := Lib.hid hw6
  obtain ⟨sq, hsq⟩ : ∃ q, q = w5.heap.size := ⟨_, rfl⟩
  rw [← hsq] at HTX0
  have HSQ := Lib.hid hsq
  clear hw5 hpw hw6 hst k34 k5 k6 kx kW H0 hx3 hy4 k3 k4 hryW hrxW hne hsq HM HR2 HR
  go_upto_block 0 with fail
  rw [← HW6.out, ← HSQ.out]
  go_cut [12] (fun s12 wc => ∃ (t : Nat) (A : List Nat) (v sv : Value), A.length ≤ 60 ∧ s12 = .int .i64 t ∧ TX W wc p rx pw ry sq rv v sv (.slice lo Nb lc) bs t A A A ∧ rowX A A.length = bs.take t ∧ t ≤ bs.length ∧ ∀ x ∈ A, x < 18446744073709551616)
  case first =>
    go_wp2
    go_loopg [12, 13, 14, 15, 16] n (fun g s12 s13 s14 s15 s16 wr => ∃ (t : Nat) (A : List Nat) (v sv : Value), A.length ≤ n ∧ g = n - A.length ∧ s13 = .int .i64 A.length ∧ s12 = .int .i64 t ∧ TX W wr p rx pw ry sq rv v sv (.slice lo Nb lc) bs t A A A ∧ rowX A A.length = bs.take t ∧ t ≤ bs.length ∧ ∀ x ∈ A, x < 18446744073709551616)
    case atStart => exact ⟨0, [], _, _, Nat.zero_le _, rfl, rfl, rfl, HTX0.out, rfl, Nat.zero_le _, (fun x h => by cases h)⟩
    case round =>
      obtain ⟨t, A, v, sv, hil, rfl, rfl, rfl, htx, hea, htl, halt⟩ := hrel
      have HI := Lib.hid htx
      have HEQA := Lib.hid (And.intro hea (And.intro htl halt))
      clear htx HTX0
      obtain ⟨sa, sc, esv⟩ := HI.out.sl.slice
      rw [xvals_length] at esv
      subst esv
      obtain ⟨m, hm⟩ : ∃ m, m = A.length := ⟨_, rfl⟩
      have HMM := Lib.hid hm
      by_cases hd : m < n
      · skip
        have hdi : (m : Int) < (n : Int) := by omega
        have HD := Lib.hid hd
        obtain ⟨Tn, hT⟩ : ∃ Tn, Tn = Nb - t := ⟨_, rfl⟩
        have htN : t ≤ Nb := by have := HBL.out; omega
        have hct := HI.out.ml.at_.cutLX (lo := t) htN hcap
        obtain ⟨ao2, hao2⟩ : ∃ a : Option Addr, a = if lc = t then lo else lo.map (·.add t) := ⟨_, rfl⟩
        rw [← hao2, ← hT] at hct
        have s1 : ∀ w, (Instr.slice 26 (.slice lo Nb lc) (some (.int .i64 (t : Int))) none none).run Tryd.prog w = .ok (.slice ao2 Tn (lc - t)) w := fun w => by
          have := run_cutLX (P := Tryd.prog) Tryd.underlying26 hiI hzI1 lo Nb lc t htN w
          rw [← hao2, ← hT] at this; exact this
        have s2 : ∀ w, (Instr.sliceAt 26 (.slice lo Nb lc) (some (.int .i64 (t : Int))) none none).run Tryd.prog w = .ok (.slice ao2 Tn (lc - t)) w := fun w => by
          have := run_cutLXAt (P := Tryd.prog) Tryd.underlying26 hiI hzI1 lo Nb lc t htN w
          rw [← hao2, ← hT] at this; exact this
        have hbx : (ints bs).drop t = ints (bs.drop t) := by unfold ints; rw [List.map_drop]
        rw [hbx] at hct
        have hdl : (bs.drop t).length = Tn := by rw [List.length_drop, HBL.out]; exact hT.symm
        have hok := winX_ok halt A.length
        have hla := lastN_lt halt A.length
        have HGET := fun w' (k : Kept (fun _ => False) wr w') => rget_any (.slice sa A.length sc) A (winX A A.length).1 (winX A A.length).2 ao2 (lc - t) (bs.drop t) w' (HI.out.sl.at_.kept k (fun _ _ x => x)) (by rw [hdl]; exact hct.kept k (fun _ _ x => x)) (by omega) (by omega) (by have := HNN.out; omega) halt hok
        have hle := getP_le A.length (lastN A A.length) (winX A A.length).1 (winX A A.length).2 (bs.drop t) hla hok
        obtain ⟨Gt, hG⟩ : ∃ Gt, Gt = gotA A (bs.drop t) := ⟨_, rfl⟩
        have hGdef : getP A.length (lastN A A.length) (winX A A.length).1 (winX A A.length).2 (bs.drop t) = Gt := hG.symm
        rw [hdl, hGdef] at HGET
        rw [hGdef, hdl] at hle
        obtain ⟨V, N, E, F, S⟩ := Gt
        simp only at HGET hle
        have hbl8 : bs.length ≤ 100000000 := by have := HBL.out; have := HNN.out; omega
        have HGY0 := fun w' (h : TX W w' p rx pw ry sq rv v (.slice sa A.length sc) (.slice lo Nb lc) bs t A A A) (hE : E = 0) => xget_yes W.heap.size p rx rv bs t A.length (lastN A A.length) (winX A A.length).1 (winX A A.length).2 V N F S w' h.rd.rd h.rd.row h.rd.kept.size h.rd.ne.1 (HTT.out.kept h.rd.kept) hbl8 (win_zero A A.length) hok (by omega) hla (by rw [hGdef, hE])
        have HGN0 := fun w' (h : TX W w' p rx pw ry sq rv v (.slice sa A.length sc) (.slice lo Nb lc) bs t A A A) (hE : E ≠ 0) => xget_no W.heap.size p rx rv bs t A.length (lastN A A.length) (winX A A.length).1 (winX A A.length).2 E w' h.rd.rd h.rd.row h.rd.kept.size (HTT.out.kept h.rd.kept) hbl8 (win_zero A A.length) hok hE (by rw [hGdef])
        have HALT := Lib.hid halt
        have HTX := Lib.hid HI.out
        obtain ⟨f, hf⟩ : ∃ f, f = (winX A A.length).1 := ⟨_, rfl⟩
        obtain ⟨s, hs⟩ : ∃ s, s = (winX A A.length).2 := ⟨_, rfl⟩
        have HSC := Lib.hid fun w' t' R' A' v' lv' (h : TX W w' p rx pw ry sq rv v' (.slice sa A.length sc) lv' bs t' R' A A') => show w'.cell? ⟨sq, 0, none⟩ = some (.slice sa m sc) ∧ w'.cell? ⟨sq, 1, none⟩ = some (.int .i64 (f : Int)) ∧ w'.cell? ⟨sq, 2, none⟩ = some (.int .i64 (s : Int)) from by rw [hm, hf, hs]; exact h.st.c
        by_cases hE0 : E = 0
        · subst hE0
          have hnx := gotA_next A (bs.drop t) V N F S halt hG.symm
          have hra : rowX (A ++ [V]) (A ++ [V]).length = bs.take (t + N) := by
            obtain ⟨s1, _, s3, _⟩ := snoc_facts A V
            rw [s1, s3, hnx, hea, List.take_add]
          have HGG := Lib.hid (show gotA A (bs.drop t) = (V, N, 0, F, S) from hG.symm)
          have HGY := Lib.hid fun w' h => HGY0 w' h rfl
          have HPY := Lib.hid fun w' v' (h : RX W w' pw ry v' A A.length) => xrowPut_any W.heap.size pw ry v' (rowX A A.length) A.length (lastN A A.length) (winX A A.length).1 (winX A A.length).2 V w' h.bw h.row hlt h.kept.size (HTT.out.kept h.kept) hok (by omega) hla hle.2.1 (by rw [hea, List.length_take]; omega)
          obtain ⟨t2, ht2⟩ : ∃ t2, t2 = t + N := ⟨_, rfl⟩
          have a2 : IntKind.i64.wrap ((t : Int) + (N : Int)) = (t2 : Int) := by have := HNN.out; rw [IntWalk.i64_in _ ⟨by omega, by omega⟩]; omega
          have HT2E := Lib.hid ht2
          have HT2N := Lib.hid (show t2 ≤ bs.length by have := HBL.out; omega)
          have HEQ := Lib.hid (show rowX (A ++ [V]) (A ++ [V]).length = bs.take t2 by rw [ht2]; exact hra)
          have HLT2 := Lib.hid (show ∀ x ∈ A ++ [V], x < 18446744073709551616 from fun x hx => by rcases List.mem_append.1 hx with h | h; exact halt x h; rw [List.mem_singleton.1 h]; exact hle.2.1)
          have ev : ((V : Int) != (V : Int)) = false := by simp
          have et : ((t2 : Int) != (t2 : Int)) = false := by simp
          rw [← hf, ← hs, ← hm] at HGET
          have HGET := Lib.hid HGET
          unfold stV RGot at HGET
          rw [← hm]
          have hmn : m ≤ 60 := by omega
          clear hT hct hao2 hbx hdl hok hla hle hG hGdef hbl8 HGY0 HGN0 hnx hra ht2 hd htN hm hea htl halt HI hf hs
          go_wp2
          refine AnyBut.start (S := fun w' => w'.cell? ⟨sq, 0, none⟩ = some (.slice sa m sc) ∧ w'.cell? ⟨sq, 1, none⟩ = some (.int .i64 (f : Int)) ∧ w'.cell? ⟨sq, 2, none⟩ = some (.int .i64 (s : Int))) (k := 6) (by kernel_rfl) ?_
          obtain ⟨wd, hwd⟩ : ∃ w', w' = wr.drew := ⟨_, rfl⟩
          have KD := Lib.hid (Kept.refl (fun _ => False) wr).drew
          rw [← hwd] at KD ⊢
          have HS0 := Lib.hid (HSC.out _ _ _ _ _ _ (HTX.out.on KD.out))
          clear hwd
          refine AnyBut.take (i := 0) (v := ?v19) rfl (by kernel_rfl) (by kernel_rfl) (by kernel_rfl) (by kernel_rfl) (fun _ _ _ h => h) (HS0.out) (Or.inl ⟨by kernel_rfl, ?hy19⟩) ?r19
          case hy19 =>
            intro w hSw
            try dsimp only at hSw
            go_simp
            try with_reducible rfl
          try simp only [Act.put, List.getElem_toArray, List.getElem_cons_zero, List.setIfInBounds_toArray, List.set_cons_zero, List.set_cons_succ]
          refine AnyBut.take (i := 1) (v := ?v20) rfl (by kernel_rfl) (by kernel_rfl) (by kernel_rfl) (by kernel_rfl) (fun _ _ _ h => h) (HS0.out) (Or.inl ⟨by kernel_rfl, ?hy20⟩) ?r20
          case hy20 =>
            intro w hSw
            try dsimp only at hSw
            go_simp
            try with_reducible rfl
          try simp only [Act.put, List.getElem_toArray, List.getElem_cons_succ, List.getElem_cons_zero, List.setIfInBounds_toArray, List.set_cons_zero, List.set_cons_succ]
          refine AnyBut.take (i := 2) (v := ?v21) rfl (by kernel_rfl) (by kernel_rfl) (by kernel_rfl) (by kernel_rfl) (fun _ _ _ h => h) (HS0.out) (Or.inl ⟨by kernel_rfl, ?hy21⟩) ?r21
          case hy21 =>
            intro w hSw
            try dsimp only at hSw
            go_simp
            try with_reducible rfl
          try simp only [Act.put, List.getElem_toArray, List.getElem_cons_succ, List.getElem_cons_zero, List.setIfInBounds_toArray, List.set_cons_zero, List.set_cons_succ]
          refine AnyBut.take (i := 3) (v := ?v22) rfl (by kernel_rfl) (by kernel_rfl) (by kernel_rfl) (by kernel_rfl) (fun _ _ _ h => h) (HS0.out) (Or.inl ⟨by kernel_rfl, ?hy22⟩) ?r22
          case hy22 =>
            intro w hSw
            try dsimp only at hSw
            go_simp
            try with_reducible rfl
          try simp only [Act.put, List.getElem_toArray, List.getElem_cons_succ, List.getElem_cons_zero, List.setIfInBounds_toArray, List.set_cons_zero, List.set_cons_succ]
          refine AnyBut.two (i := 4) (j := 5) (by kernel_rfl) rfl rfl (fun K hK => ?_) (fun K hK => ?_)
          · go_simp
            go_wp2_with fail
            refine (HGET.out _ KD.out).mono ?_
            rintro e w7 ⟨v7, V', N', F', S', rfl, hok7, hno7, k7⟩
            obtain ⟨rfl, rfl, rfl, rfl, ml⟩ := hok7 (by trivial)
            clear hno7
            obtain ⟨la, lc7, le⟩ := ml.slice
            obtain ⟨ln, hln⟩ : ∃ n, v7 = Value.slice la n lc7 := ⟨_, le⟩
            clear le
            subst hln
            have HML := Lib.hid ml
            clear ml
            have K7 := Lib.hid (KD.out.trans k7)
            clear k7
            have HS7 := Lib.hid (HSC.out _ _ _ _ _ _ (HTX.out.on K7.out))
            go_wp2
            refine hK.out _ _ (HS7.out) ?_
            clear hK K
            try simp only [Act.put, List.getElem_toArray, List.getElem_cons_succ, List.getElem_cons_zero, List.setIfInBounds_toArray, List.set_cons_zero, List.set_cons_succ]
            refine AnyBut.one (i := 5) (by kernel_rfl) rfl (fun K hK => ?_)
            go_simp
            have HS9 := Lib.hid (HSC.out _ _ _ _ _ _ (HTX.out.on (K7.out.alloc (.cells #[.int .u64 0, .int .i64 0, .slice none 0 0, .int .i64 0, .int .i64 0, .int .i64 0] 69))))
            have HNB := Lib.hid (show GBox (w7.alloc (.cells #[.int .u64 0, .int .i64 0, .slice none 0 0, .int .i64 0, .int .i64 0, .int .i64 0] 69)) w7.heap.size 0 0 (.slice none 0 0) 0 0 0 from heap_alloc_new w7 _)
            have KL := Lib.hid (K7.out.alloc (.cells #[.int .u64 0, .int .i64 0, .slice none 0 0, .int .i64 0, .int .i64 0, .int .i64 0] 69))
            have HM2 := Lib.hid ((HML.out.down KD.out).on ((Kept.refl (fun _ => False) w7).alloc (.cells #[.int .u64 0, .int .i64 0, .slice none 0 0, .int .i64 0, .int .i64 0, .int .i64 0] 69)))
            have HNQ := Lib.hid (show wr.heap.size ≤ w7.heap.size from K7.out.size)
            obtain ⟨gq, hnq⟩ : ∃ n, n = w7.heap.size := ⟨_, rfl⟩
            obtain ⟨w8, hw8⟩ : ∃ w', w' = w7.alloc (.cells #[.int .u64 0, .int .i64 0, .slice none 0 0, .int .i64 0, .int .i64 0, .int .i64 0] 69) := ⟨_, rfl⟩
            rw [← hw8] at HS9 HNB KL HM2 ⊢
            rw [← hnq] at HNB HNQ ⊢
            clear hnq hw8
            refine hK.out _ _ (HS9.out) ?_
            clear hK K
            try simp only [Act.put, List.getElem_toArray, List.getElem_cons_succ, List.getElem_cons_zero, List.setIfInBounds_toArray, List.set_cons_zero, List.set_cons_succ]
            refine AnyBut.last (by kernel_rfl) rfl (by kernel_rfl) (fun K hK => ?_)
            obtain ⟨g0, g1, g2, g3, g4, g5⟩ := HNB.out.c
            have y0 := HNB.out.f 0
            have y1 := HNB.out.f 1
            have y2 := HNB.out.f 2
            have y3 := HNB.out.f 3
            have y4 := HNB.out.f 4
            have y5 := HNB.out.f 5
            go_simp
            go_wp2
            refine hK.out _ _ ?_
            clear hK K
            try simp only [Act.put, List.getElem_toArray, List.getElem_cons_succ, List.getElem_cons_zero, List.setIfInBounds_toArray, List.set_cons_zero, List.set_cons_succ]
            obtain ⟨w9, hw9⟩ : ∃ w', w' = set6 w8 gq (.int .u64 (V' : Int)) (.int .i64 (N' : Int)) (.slice la ln lc7) (.int .i64 (F' : Int)) (.int .i64 (S' : Int)) (.int .i64 (0 : Int)) := ⟨_, rfl⟩
            have k9 := set6_kept w8 gq (.int .u64 (V' : Int)) (.int .i64 (N' : Int)) (.slice la ln lc7) (.int .i64 (F' : Int)) (.int .i64 (S' : Int)) (.int .i64 (0 : Int))
            have n9 := HNB.out.set V' N' (.slice la ln lc7) F' S' 0
            rw [← hw9] at k9 n9
            have K9 := Lib.hid (KL.out.step k9 (fun j hj e => by have := HNQ.out; omega))
            have ML9 := Lib.hid ((HM2.out.down HTX.out.rd.kept).keptS k9 (fun k e x => ownT HM2.out.own HNB.out (by decide) (by rw [e, x])) (fun k e => by have := HNQ.out; have := HTX.out.rd.kept.size; omega))
            have X9 := Lib.hid (HTX.out.on K9.out)
            have N9 := Lib.hid n9
            unfold set6 at hw9
            rw [← hw9]
            clear hw9 k9 n9 HNB KL HM2 g0 g1 g2 g3 g4 g5 y0 y1 y2 y3 y4 y5
            go_wp2_with fail
            refine (HGY.out _ X9.out).mono ?_
            intro e w10 hx10
            have K10 := Lib.hid hx10.2.2.2
            obtain ⟨rfl, hq10⟩ := X9.out.got HALT.out HGG.out hx10
            have X10 := Lib.hid hq10
            clear hq10
            have N10 := Lib.hid (N9.out.same K10.out (fun e => by rcases e with e | e; exact boxT N9.out X9.out.rd.rd.box (by decide) e; exact boxT N9.out X9.out.rd.row (by decide) e))
            have M10 := Lib.hid (ML9.out.keptS K10.out (fun k e x => by rcases x with rfl | rfl; exact ownT ML9.out.own X9.out.rd.rd.box (by decide) e; exact ownT ML9.out.own X9.out.rd.row (by decide) e) (fun k x => by rcases x with rfl | rfl; exact X9.out.rd.rd.base; exact X9.out.rd.base))
            clear hx10
            go_wp2
            refine AnyBut.start (S := fun w' => w'.cell? ⟨gq, 0, none⟩ = some (.int .u64 (V' : Int)) ∧ w'.cell? ⟨gq, 1, none⟩ = some (.int .i64 (N' : Int)) ∧ w'.cell? ⟨gq, 5, none⟩ = some (.int .i64 (0 : Int))) (k := 19) (by kernel_rfl) ?_
            obtain ⟨w11, hw11⟩ : ∃ w', w' = w10.drew := ⟨_, rfl⟩
            have k11 : Kept (fun _ => False) w10 w11 := by rw [hw11]; exact (Kept.refl _ _).drew
            rw [← hw11]
            clear hw11
            have X11 := Lib.hid (X10.out.on k11)
            have N11 := Lib.hid (N10.out.same k11 (fun x => x))
            have HS18 := Lib.hid (And.intro N11.out.c.1 (And.intro N11.out.c.2.1 N11.out.c.2.2.2.2.2))
            have HAT := Lib.hid (bat_any W.heap.size p rv bs t2 w11 (by have := X11.out.rd.rd; rw [← HT2E.out] at this; exact this))
            have M11 := Lib.hid (M10.out.on k11)
            clear k11
            refine AnyBut.takeS (i := 0) (v := ?v101022) rfl (by kernel_rfl) (Nat.le_of_eq (by kernel_rfl)) (by kernel_rfl) (by kernel_rfl) (fun _ _ _ h => h) (HS18.out) (Or.inl ⟨by kernel_rfl, ?hy101022⟩) ?r101022
            case hy101022 =>
              intro w hSw
              try dsimp only at hSw
              go_simp
              try with_reducible rfl
            try simp only [Act.put, List.getElem_toArray, List.getElem_cons_zero, List.setIfInBounds_toArray, List.set_cons_zero, List.set_cons_succ]
            refine AnyBut.takeS (i := 1) (v := ?v201022) rfl (by kernel_rfl) (Nat.le_of_eq (by kernel_rfl)) (by kernel_rfl) (by kernel_rfl) (fun _ _ _ h => h) (HS18.out) (Or.inl ⟨by kernel_rfl, ?hy201022⟩) ?r201022
            case hy201022 =>
              intro w hSw
              try dsimp only at hSw
              go_simp
              try with_reducible rfl
            try simp only [Act.put, List.getElem_toArray, List.getElem_cons_succ, List.getElem_cons_zero, List.setIfInBounds_toArray, List.set_cons_zero, List.set_cons_succ]
            refine AnyBut.takeS (i := 2) (v := ?v301022) rfl (by kernel_rfl) (Nat.le_of_eq (by kernel_rfl)) (by kernel_rfl) (by kernel_rfl) (fun _ _ _ h => h) (HS18.out) (Or.inl ⟨by kernel_rfl, ?hy301022⟩) ?r301022
            case hy301022 =>
              intro w hSw
              try dsimp only at hSw
              go_simp
              try with_reducible rfl
            try simp only [Act.put, List.getElem_toArray, List.getElem_cons_succ, List.getElem_cons_zero, List.setIfInBounds_toArray, List.set_cons_zero, List.set_cons_succ]
            refine AnyBut.takeS (i := 3) (v := ?v401022) rfl (by kernel_rfl) (Nat.le_of_eq (by kernel_rfl)) (by kernel_rfl) (by kernel_rfl) (fun _ _ _ h => h) (HS18.out) (Or.inl ⟨by kernel_rfl, ?hy401022⟩) ?r401022
            case hy401022 =>
              intro w hSw
              try dsimp only at hSw
              go_simp
              try with_reducible rfl
            try simp only [Act.put, List.getElem_toArray, List.getElem_cons_succ, List.getElem_cons_zero, List.setIfInBounds_toArray, List.set_cons_zero, List.set_cons_succ]
            refine AnyBut.takeS (i := 4) (v := ?v501022) rfl (by kernel_rfl) (Nat.le_of_eq (by kernel_rfl)) (by kernel_rfl) (by kernel_rfl) (fun _ _ _ h => h) (HS18.out) (Or.inl ⟨by kernel_rfl, ?hy501022⟩) ?r501022
            case hy501022 =>
              intro w hSw
              try dsimp only at hSw
              go_simp
              try with_reducible rfl
            try simp only [Act.put, List.getElem_toArray, List.getElem_cons_succ, List.getElem_cons_zero, List.setIfInBounds_toArray, List.set_cons_zero, List.set_cons_succ]
            refine AnyBut.takeS (i := 5) (v := ?v601022) rfl (by kernel_rfl) (Nat.le_of_eq (by kernel_rfl)) (by kernel_rfl) (by kernel_rfl) (fun _ _ _ h => h) (HS18.out) (Or.inl ⟨by kernel_rfl, ?hy601022⟩) ?r601022
            case hy601022 =>
              intro w hSw
              try dsimp only at hSw
              go_simp
              try with_reducible rfl
            try simp only [Act.put, List.getElem_toArray, List.getElem_cons_succ, List.getElem_cons_zero, List.setIfInBounds_toArray, List.set_cons_zero, List.set_cons_succ]
            refine AnyBut.takeS (i := 6) (v := ?v701022) rfl (by kernel_rfl) (Nat.le_of_eq (by kernel_rfl)) (by kernel_rfl) (by kernel_rfl) (fun _ _ _ h => h) (HS18.out) (Or.inl ⟨by kernel_rfl, ?hy701022⟩) ?r701022
            case hy701022 =>
              intro w hSw
              try dsimp only at hSw
              go_simp
              try with_reducible rfl
            try simp only [Act.put, List.getElem_toArray, List.getElem_cons_succ, List.getElem_cons_zero, List.setIfInBounds_toArray, List.set_cons_zero, List.set_cons_succ]
            refine AnyBut.takeS (i := 7) (v := ?v801022) rfl (by kernel_rfl) (Nat.le_of_eq (by kernel_rfl)) (by kernel_rfl) (by kernel_rfl) (fun _ _ _ h => h) (HS18.out) (Or.inl ⟨by kernel_rfl, ?hy801022⟩) ?r801022
            case hy801022 =>
              intro w hSw
              try dsimp only at hSw
              go_simp
              try with_reducible rfl
            try simp only [Act.put, List.getElem_toArray, List.getElem_cons_succ, List.getElem_cons_zero, List.setIfInBounds_toArray, List.set_cons_zero, List.set_cons_succ]
            refine AnyBut.takeS (i := 8) (v := ?v901022) rfl (by kernel_rfl) (Nat.le_of_eq (by kernel_rfl)) (by kernel_rfl) (by kernel_rfl) (fun _ _ _ h => h) (HS18.out) (Or.inl ⟨by kernel_rfl, ?hy901022⟩) ?r901022
            case hy901022 =>
              intro w hSw
              try dsimp only at hSw
              go_simp
              try with_reducible rfl
            try simp only [Act.put, List.getElem_toArray, List.getElem_cons_succ, List.getElem_cons_zero, List.setIfInBounds_toArray, List.set_cons_zero, List.set_cons_succ]
            refine AnyBut.takeS (i := 9) (v := ?v1001022) rfl (by kernel_rfl) (Nat.le_of_eq (by kernel_rfl)) (by kernel_rfl) (by kernel_rfl) (fun _ _ _ h => h) (HS18.out) (Or.inl ⟨by kernel_rfl, ?hy1001022⟩) ?r1001022
            case hy1001022 =>
              intro w hSw
              try dsimp only at hSw
              go_simp
              try with_reducible rfl
            try simp only [Act.put, List.getElem_toArray, List.getElem_cons_succ, List.getElem_cons_zero, List.setIfInBounds_toArray, List.set_cons_zero, List.set_cons_succ]
            refine AnyBut.takeS (i := 10) (v := ?v1101022) rfl (by kernel_rfl) (Nat.le_of_eq (by kernel_rfl)) (by kernel_rfl) (by kernel_rfl) (fun _ _ _ h => h) (HS18.out) (Or.inl ⟨by kernel_rfl, ?hy1101022⟩) ?r1101022
            case hy1101022 =>
              intro w hSw
              try dsimp only at hSw
              go_simp
              try with_reducible rfl
            try simp only [Act.put, List.getElem_toArray, List.getElem_cons_succ, List.getElem_cons_zero, List.setIfInBounds_toArray, List.set_cons_zero, List.set_cons_succ]
            refine AnyBut.takeS (i := 11) (v := ?v1201022) rfl (by kernel_rfl) (Nat.le_of_eq (by kernel_rfl)) (by kernel_rfl) (by kernel_rfl) (fun _ _ _ h => h) (HS18.out) (Or.inl ⟨by kernel_rfl, ?hy1201022⟩) ?r1201022
            case hy1201022 =>
              intro w hSw
              try dsimp only at hSw
              go_simp
              try with_reducible rfl
            try simp only [Act.put, List.getElem_toArray, List.getElem_cons_succ, List.getElem_cons_zero, List.setIfInBounds_toArray, List.set_cons_zero, List.set_cons_succ]
            refine AnyBut.takeS (i := 13) (v := ?v1301022) rfl (by kernel_rfl) (Nat.le_of_eq (by kernel_rfl)) (by kernel_rfl) (by kernel_rfl) (fun _ _ _ h => h) (HS18.out) (Or.inl ⟨by kernel_rfl, ?hy1301022⟩) ?r1301022
            case hy1301022 =>
              intro w hSw
              try dsimp only at hSw
              go_simp
              try with_reducible rfl
            try simp only [Act.put, List.getElem_toArray, List.getElem_cons_succ, List.getElem_cons_zero, List.setIfInBounds_toArray, List.set_cons_zero, List.set_cons_succ]
            refine AnyBut.takeS (i := 14) (v := ?v1401022) rfl (by kernel_rfl) (Nat.le_of_eq (by kernel_rfl)) (by kernel_rfl) (by kernel_rfl) (fun _ _ _ h => h) (HS18.out) (Or.inl ⟨by kernel_rfl, ?hy1401022⟩) ?r1401022
            case hy1401022 =>
              intro w hSw
              try dsimp only at hSw
              go_simp
              try with_reducible rfl
            try simp only [Act.put, List.getElem_toArray, List.getElem_cons_succ, List.getElem_cons_zero, List.setIfInBounds_toArray, List.set_cons_zero, List.set_cons_succ]
            refine AnyBut.takeS (i := 15) (v := ?v1501022) rfl (by kernel_rfl) (Nat.le_of_eq (by kernel_rfl)) (by kernel_rfl) (by kernel_rfl) (fun _ _ _ h => h) (HS18.out) (Or.inl ⟨by kernel_rfl, ?hy1501022⟩) ?r1501022
            case hy1501022 =>
              intro w hSw
              try dsimp only at hSw
              go_simp
              try with_reducible rfl
            try simp only [Act.put, List.getElem_toArray, List.getElem_cons_succ, List.getElem_cons_zero, List.setIfInBounds_toArray, List.set_cons_zero, List.set_cons_succ]
            refine AnyBut.takeS (i := 16) (v := ?v1601022) rfl (by kernel_rfl) (Nat.le_of_eq (by kernel_rfl)) (by kernel_rfl) (by kernel_rfl) (fun _ _ _ h => h) (HS18.out) (Or.inl ⟨by kernel_rfl, ?hy1601022⟩) ?r1601022
            case hy1601022 =>
              intro w hSw
              try dsimp only at hSw
              go_simp
              try with_reducible rfl
            try simp only [Act.put, List.getElem_toArray, List.getElem_cons_succ, List.getElem_cons_zero, List.setIfInBounds_toArray, List.set_cons_zero, List.set_cons_succ]
            refine AnyBut.one (i := 12) (by kernel_rfl) rfl (fun K hK => ?_)
            go_simp
            go_wp2_with fail
            refine HAT.out.mono ?_
            rintro e w' ⟨rfl, rfl⟩
            go_wp2
            refine hK.out _ _ (HS18.out) ?_
            clear hK K
            try simp only [Act.put, List.getElem_toArray, List.getElem_cons_succ, List.getElem_cons_zero, List.setIfInBounds_toArray, List.set_cons_zero, List.set_cons_succ]
            refine AnyBut.takeS (i := 17) (v := ?v1701022) rfl (by kernel_rfl) (Nat.le_of_eq (by kernel_rfl)) (by kernel_rfl) (by kernel_rfl) (fun _ _ _ h => h) (HS18.out) (Or.inl ⟨by kernel_rfl, ?hy1701022⟩) ?r1701022
            case hy1701022 =>
              intro w hSw
              try dsimp only at hSw
              go_simp
              try with_reducible rfl
            try simp only [Act.put, List.getElem_toArray, List.getElem_cons_succ, List.getElem_cons_zero, List.setIfInBounds_toArray, List.set_cons_zero, List.set_cons_succ]
            refine AnyBut.takeS (i := 18) (v := ?v1801022) rfl (by kernel_rfl) (Nat.le_of_eq (by kernel_rfl)) (by kernel_rfl) (by kernel_rfl) (fun _ _ _ h => h) (HS18.out) (Or.inl ⟨by kernel_rfl, ?hy1801022⟩) ?r1801022
            case hy1801022 =>
              intro w hSw
              try dsimp only at hSw
              go_simp
              try with_reducible rfl
            try simp only [Act.put, List.getElem_toArray, List.getElem_cons_succ, List.getElem_cons_zero, List.setIfInBounds_toArray, List.set_cons_zero, List.set_cons_succ]
            refine AnyBut.done (by kernel_rfl) ?_
            obtain ⟨g0, g1, g2, g3, g4, g5⟩ := N11.out.c
            obtain ⟨u0, u1, u2⟩ := X11.out.st.c
            have z0 := X11.out.st.f 0
            have z1 := X11.out.st.f 1
            have z2 := X11.out.st.f 2
            go_upto_region 25 with fail
            have x12 := X11.out.setSt HALT.out HGG.out (.slice la ln lc7) M11.out
            have n12 := N11.out.same (set3_kept w11 sq (.slice la ln lc7) (.int .i64 (F' : Int)) (.int .i64 (S' : Int))) (fun e => boxT N11.out X11.out.st (by decide) e)
            obtain ⟨w12, hw12⟩ : ∃ w', w' = set3 w11 sq (.slice la ln lc7) (.int .i64 (F' : Int)) (.int .i64 (S' : Int)) := ⟨_, rfl⟩
            rw [← hw12] at x12 n12
            unfold set3 at hw12
            rw [← hw12]
            have X12 := Lib.hid x12
            clear hw12 x12 g0 g1 g2 g3 g4 g5 u0 u1 u2 z0 z1 z2
            obtain ⟨g0, g1, g2, g3, g4, g5⟩ := n12.c
            clear n12
            go_wp2_with fail
            refine (HPY.out _ _ X12.out.wx).mono ?_
            intro e w13 hx13
            obtain ⟨rfl, v13, hq13⟩ := X12.out.yput hx13
            have X13 := Lib.hid hq13
            clear hq13
            clear hx13 g0 g1 g2 g3 g4 g5
            go_wp2
            go_roundg (n - (A ++ [V']).length)
            case measure => have := HD.out; have := HMM.out; simp; omega
            case rel => exact ⟨t2, A ++ [V'], _, _, by have := HD.out; have := HMM.out; simp; omega, rfl, by rw [List.length_append, ← HMM.out]; go_num, rfl, by rw [HT2E.out]; exact X13.out, HEQ.out, by have := HT2N.out; omega, HLT2.out⟩
          · go_simp
            have HS9 := Lib.hid (HSC.out _ _ _ _ _ _ (HTX.out.on (KD.out.alloc (.cells #[.int .u64 0, .int .i64 0, .slice none 0 0, .int .i64 0, .int .i64 0, .int .i64 0] 69))))
            have HNB0 := Lib.hid (show GBox (wd.alloc (.cells #[.int .u64 0, .int .i64 0, .slice none 0 0, .int .i64 0, .int .i64 0, .int .i64 0] 69)) wd.heap.size 0 0 (.slice none 0 0) 0 0 0 from heap_alloc_new wd _)
            have KE := Lib.hid (KD.out.alloc (.cells #[.int .u64 0, .int .i64 0, .slice none 0 0, .int .i64 0, .int .i64 0, .int .i64 0] 69))
            have HNQ := Lib.hid (show wr.heap.size ≤ wd.heap.size from KD.out.size)
            obtain ⟨gq, hnq⟩ : ∃ n, n = wd.heap.size := ⟨_, rfl⟩
            obtain ⟨we, hwe⟩ : ∃ w', w' = wd.alloc (.cells #[.int .u64 0, .int .i64 0, .slice none 0 0, .int .i64 0, .int .i64 0, .int .i64 0] 69) := ⟨_, rfl⟩
            rw [← hwe] at HS9 HNB0 KE ⊢
            rw [← hnq] at HNB0 HNQ ⊢
            clear hnq hwe
            refine hK.out _ _ (HS9.out) ?_
            clear hK K
            try simp only [Act.put, List.getElem_toArray, List.getElem_cons_succ, List.getElem_cons_zero, List.setIfInBounds_toArray, List.set_cons_zero, List.set_cons_succ]
            refine AnyBut.one (i := 4) (by kernel_rfl) rfl (fun K hK => ?_)
            go_simp
            go_wp2_with fail
            refine (HGET.out _ KE.out).mono ?_
            rintro e w7 ⟨v7, V', N', F', S', rfl, hok7, hno7, k7⟩
            obtain ⟨rfl, rfl, rfl, rfl, ml⟩ := hok7 (by trivial)
            clear hno7
            obtain ⟨la, lc7, le⟩ := ml.slice
            obtain ⟨ln, hln⟩ : ∃ n, v7 = Value.slice la n lc7 := ⟨_, le⟩
            clear le
            subst hln
            have HML := Lib.hid ml
            clear ml
            obtain ⟨w8, hw8⟩ : ∃ w', w' = w7 := ⟨_, rfl⟩
            have HNB := Lib.hid (HNB0.out.same k7 (fun x => x))
            have KL := Lib.hid (KE.out.trans k7)
            have HM2 := Lib.hid (HML.out.down KE.out)
            rw [← hw8] at HNB KL HM2 ⊢
            clear k7 hw8
            have HS7 := Lib.hid (HSC.out _ _ _ _ _ _ (HTX.out.on KL.out))
            go_wp2
            refine hK.out _ _ (HS7.out) ?_
            clear hK K
            try simp only [Act.put, List.getElem_toArray, List.getElem_cons_succ, List.getElem_cons_zero, List.setIfInBounds_toArray, List.set_cons_zero, List.set_cons_succ]
            refine AnyBut.last (by kernel_rfl) rfl (by kernel_rfl) (fun K hK => ?_)
            obtain ⟨g0, g1, g2, g3, g4, g5⟩ := HNB.out.c
            have y0 := HNB.out.f 0
            have y1 := HNB.out.f 1
            have y2 := HNB.out.f 2
            have y3 := HNB.out.f 3
            have y4 := HNB.out.f 4
            have y5 := HNB.out.f 5
            go_simp
            go_wp2
            refine hK.out _ _ ?_
            clear hK K
            try simp only [Act.put, List.getElem_toArray, List.getElem_cons_succ, List.getElem_cons_zero, List.setIfInBounds_toArray, List.set_cons_zero, List.set_cons_succ]
            obtain ⟨w9, hw9⟩ : ∃ w', w' = set6 w8 gq (.int .u64 (V' : Int)) (.int .i64 (N' : Int)) (.slice la ln lc7) (.int .i64 (F' : Int)) (.int .i64 (S' : Int)) (.int .i64 (0 : Int)) := ⟨_, rfl⟩
            have k9 := set6_kept w8 gq (.int .u64 (V' : Int)) (.int .i64 (N' : Int)) (.slice la ln lc7) (.int .i64 (F' : Int)) (.int .i64 (S' : Int)) (.int .i64 (0 : Int))
            have n9 := HNB.out.set V' N' (.slice la ln lc7) F' S' 0
            rw [← hw9] at k9 n9
            have K9 := Lib.hid (KL.out.step k9 (fun j hj e => by have := HNQ.out; omega))
            have ML9 := Lib.hid ((HM2.out.down HTX.out.rd.kept).keptS k9 (fun k e x => ownT HM2.out.own HNB.out (by decide) (by rw [e, x])) (fun k e => by have := HNQ.out; have := HTX.out.rd.kept.size; omega))
            have X9 := Lib.hid (HTX.out.on K9.out)
            have N9 := Lib.hid n9
            unfold set6 at hw9
            rw [← hw9]
            clear hw9 k9 n9 HNB KL HM2 g0 g1 g2 g3 g4 g5 y0 y1 y2 y3 y4 y5
            go_wp2_with fail
            refine (HGY.out _ X9.out).mono ?_
            intro e w10 hx10
            have K10 := Lib.hid hx10.2.2.2
            obtain ⟨rfl, hq10⟩ := X9.out.got HALT.out HGG.out hx10
            have X10 := Lib.hid hq10
            clear hq10
            have N10 := Lib.hid (N9.out.same K10.out (fun e => by rcases e with e | e; exact boxT N9.out X9.out.rd.rd.box (by decide) e; exact boxT N9.out X9.out.rd.row (by decide) e))
            have M10 := Lib.hid (ML9.out.keptS K10.out (fun k e x => by rcases x with rfl | rfl; exact ownT ML9.out.own X9.out.rd.rd.box (by decide) e; exact ownT ML9.out.own X9.out.rd.row (by decide) e) (fun k x => by rcases x with rfl | rfl; exact X9.out.rd.rd.base; exact X9.out.rd.base))
            clear hx10
            go_wp2
            refine AnyBut.start (S := fun w' => w'.cell? ⟨gq, 0, none⟩ = some (.int .u64 (V' : Int)) ∧ w'.cell? ⟨gq, 1, none⟩ = some (.int .i64 (N' : Int)) ∧ w'.cell? ⟨gq, 5, none⟩ = some (.int .i64 (0 : Int))) (k := 19) (by kernel_rfl) ?_
            obtain ⟨w11, hw11⟩ : ∃ w', w' = w10.drew := ⟨_, rfl⟩
            have k11 : Kept (fun _ => False) w10 w11 := by rw [hw11]; exact (Kept.refl _ _).drew
            rw [← hw11]
            clear hw11
            have X11 := Lib.hid (X10.out.on k11)
            have N11 := Lib.hid (N10.out.same k11 (fun x => x))
            have HS18 := Lib.hid (And.intro N11.out.c.1 (And.intro N11.out.c.2.1 N11.out.c.2.2.2.2.2))
            have HAT := Lib.hid (bat_any W.heap.size p rv bs t2 w11 (by have := X11.out.rd.rd; rw [← HT2E.out] at this; exact this))
            have M11 := Lib.hid (M10.out.on k11)
            clear k11
            refine AnyBut.takeS (i := 0) (v := ?v102022) rfl (by kernel_rfl) (Nat.le_of_eq (by kernel_rfl)) (by kernel_rfl) (by kernel_rfl) (fun _ _ _ h => h) (HS18.out) (Or.inl ⟨by kernel_rfl, ?hy102022⟩) ?r102022
            case hy102022 =>
              intro w hSw
              try dsimp only at hSw
              go_simp
              try with_reducible rfl
            try simp only [Act.put, List.getElem_toArray, List.getElem_cons_zero, List.setIfInBounds_toArray, List.set_cons_zero, List.set_cons_succ]
            refine AnyBut.takeS (i := 1) (v := ?v202022) rfl (by kernel_rfl) (Nat.le_of_eq (by kernel_rfl)) (by kernel_rfl) (by kernel_rfl) (fun _ _ _ h => h) (HS18.out) (Or.inl ⟨by kernel_rfl, ?hy202022⟩) ?r202022
            case hy202022 =>
              intro w hSw
              try dsimp only at hSw
              go_simp
              try with_reducible rfl
            try simp only [Act.put, List.getElem_toArray, List.getElem_cons_succ, List.getElem_cons_zero, List.setIfInBounds_toArray, List.set_cons_zero, List.set_cons_succ]
            refine AnyBut.takeS (i := 2) (v := ?v302022) rfl (by kernel_rfl) (Nat.le_of_eq (by kernel_rfl)) (by kernel_rfl) (by kernel_rfl) (fun _ _ _ h => h) (HS18.out) (Or.inl ⟨by kernel_rfl, ?hy302022⟩) ?r302022
            case hy302022 =>
              intro w hSw
              try dsimp only at hSw
              go_simp
              try with_reducible rfl
            try simp only [Act.put, List.getElem_toArray, List.getElem_cons_succ, List.getElem_cons_zero, List.setIfInBounds_toArray, List.set_cons_zero, List.set_cons_succ]
            refine AnyBut.takeS (i := 3) (v := ?v402022) rfl (by kernel_rfl) (Nat.le_of_eq (by kernel_rfl)) (by kernel_rfl) (by kernel_rfl) (fun _ _ _ h => h) (HS18.out) (Or.inl ⟨by kernel_rfl, ?hy402022⟩) ?r402022
            case hy402022 =>
              intro w hSw
              try dsimp only at hSw
              go_simp
              try with_reducible rfl
            try simp only [Act.put, List.getElem_toArray, List.getElem_cons_succ, List.getElem_cons_zero, List.setIfInBounds_toArray, List.set_cons_zero, List.set_cons_succ]
            refine AnyBut.takeS (i := 4) (v := ?v502022) rfl (by kernel_rfl) (Nat.le_of_eq (by kernel_rfl)) (by kernel_rfl) (by kernel_rfl) (fun _ _ _ h => h) (HS18.out) (Or.inl ⟨by kernel_rfl, ?hy502022⟩) ?r502022
            case hy502022 =>
              intro w hSw
              try dsimp only at hSw
              go_simp
              try with_reducible rfl
            try simp only [Act.put, List.getElem_toArray, List.getElem_cons_succ, List.getElem_cons_zero, List.setIfInBounds_toArray, List.set_cons_zero, List.set_cons_succ]
            refine AnyBut.takeS (i := 5) (v := ?v602022) rfl (by kernel_rfl) (Nat.le_of_eq (by kernel_rfl)) (by kernel_rfl) (by kernel_rfl) (fun _ _ _ h => h) (HS18.out) (Or.inl ⟨by kernel_rfl, ?hy602022⟩) ?r602022
            case hy602022 =>
              intro w hSw
              try dsimp only at hSw
              go_simp
              try with_reducible rfl
            try simp only [Act.put, List.getElem_toArray, List.getElem_cons_succ, List.getElem_cons_zero, List.setIfInBounds_toArray, List.set_cons_zero, List.set_cons_succ]
            refine AnyBut.takeS (i := 6) (v := ?v702022) rfl (by kernel_rfl) (Nat.le_of_eq (by kernel_rfl)) (by kernel_rfl) (by kernel_rfl) (fun _ _ _ h => h) (HS18.out) (Or.inl ⟨by kernel_rfl, ?hy702022⟩) ?r702022
            case hy702022 =>
              intro w hSw
              try dsimp only at hSw
              go_simp
              try with_reducible rfl
            try simp only [Act.put, List.getElem_toArray, List.getElem_cons_succ, List.getElem_cons_zero, List.setIfInBounds_toArray, List.set_cons_zero, List.set_cons_succ]
            refine AnyBut.takeS (i := 7) (v := ?v802022) rfl (by kernel_rfl) (Nat.le_of_eq (by kernel_rfl)) (by kernel_rfl) (by kernel_rfl) (fun _ _ _ h => h) (HS18.out) (Or.inl ⟨by kernel_rfl, ?hy802022⟩) ?r802022
            case hy802022 =>
              intro w hSw
              try dsimp only at hSw
              go_simp
              try with_reducible rfl
            try simp only [Act.put, List.getElem_toArray, List.getElem_cons_succ, List.getElem_cons_zero, List.setIfInBounds_toArray, List.set_cons_zero, List.set_cons_succ]
            refine AnyBut.takeS (i := 8) (v := ?v902022) rfl (by kernel_rfl) (Nat.le_of_eq (by kernel_rfl)) (by kernel_rfl) (by kernel_rfl) (fun _ _ _ h => h) (HS18.out) (Or.inl ⟨by kernel_rfl, ?hy902022⟩) ?r902022
            case hy902022 =>
              intro w hSw
              try dsimp only at hSw
              go_simp
              try with_reducible rfl
            try simp only [Act.put, List.getElem_toArray, List.getElem_cons_succ, List.getElem_cons_zero, List.setIfInBounds_toArray, List.set_cons_zero, List.set_cons_succ]
            refine AnyBut.takeS (i := 9) (v := ?v1002022) rfl (by kernel_rfl) (Nat.le_of_eq (by kernel_rfl)) (by kernel_rfl) (by kernel_rfl) (fun _ _ _ h => h) (HS18.out) (Or.inl ⟨by kernel_rfl, ?hy1002022⟩) ?r1002022
            case hy1002022 =>
              intro w hSw
              try dsimp only at hSw
              go_simp
              try with_reducible rfl
            try simp only [Act.put, List.getElem_toArray, List.getElem_cons_succ, List.getElem_cons_zero, List.setIfInBounds_toArray, List.set_cons_zero, List.set_cons_succ]
            refine AnyBut.takeS (i := 10) (v := ?v1102022) rfl (by kernel_rfl) (Nat.le_of_eq (by kernel_rfl)) (by kernel_rfl) (by kernel_rfl) (fun _ _ _ h => h) (HS18.out) (Or.inl ⟨by kernel_rfl, ?hy1102022⟩) ?r1102022
            case hy1102022 =>
              intro w hSw
              try dsimp only at hSw
              go_simp
              try with_reducible rfl
            try simp only [Act.put, List.getElem_toArray, List.getElem_cons_succ, List.getElem_cons_zero, List.setIfInBounds_toArray, List.set_cons_zero, List.set_cons_succ]
            refine AnyBut.takeS (i := 11) (v := ?v1202022) rfl (by kernel_rfl) (Nat.le_of_eq (by kernel_rfl)) (by kernel_rfl) (by kernel_rfl) (fun _ _ _ h => h) (HS18.out) (Or.inl ⟨by kernel_rfl, ?hy1202022⟩) ?r1202022
            case hy1202022 =>
              intro w hSw
              try dsimp only at hSw
              go_simp
              try with_reducible rfl
            try simp only [Act.put, List.getElem_toArray, List.getElem_cons_succ, List.getElem_cons_zero, List.setIfInBounds_toArray, List.set_cons_zero, List.set_cons_succ]
            refine AnyBut.takeS (i := 13) (v := ?v1302022) rfl (by kernel_rfl) (Nat.le_of_eq (by kernel_rfl)) (by kernel_rfl) (by kernel_rfl) (fun _ _ _ h => h) (HS18.out) (Or.inl ⟨by kernel_rfl, ?hy1302022⟩) ?r1302022
            case hy1302022 =>
              intro w hSw
              try dsimp only at hSw
              go_simp
              try with_reducible rfl
            try simp only [Act.put, List.getElem_toArray, List.getElem_cons_succ, List.getElem_cons_zero, List.setIfInBounds_toArray, List.set_cons_zero, List.set_cons_succ]
            refine AnyBut.takeS (i := 14) (v := ?v1402022) rfl (by kernel_rfl) (Nat.le_of_eq (by kernel_rfl)) (by kernel_rfl) (by kernel_rfl) (fun _ _ _ h => h) (HS18.out) (Or.inl ⟨by kernel_rfl, ?hy1402022⟩) ?r1402022
            case hy1402022 =>
              intro w hSw
              try dsimp only at hSw
              go_simp
              try with_reducible rfl
            try simp only [Act.put, List.getElem_toArray, List.getElem_cons_succ, List.getElem_cons_zero, List.setIfInBounds_toArray, List.set_cons_zero, List.set_cons_succ]
            refine AnyBut.takeS (i := 15) (v := ?v1502022) rfl (by kernel_rfl) (Nat.le_of_eq (by kernel_rfl)) (by kernel_rfl) (by kernel_rfl) (fun _ _ _ h => h) (HS18.out) (Or.inl ⟨by kernel_rfl, ?hy1502022⟩) ?r1502022
            case hy1502022 =>
              intro w hSw
              try dsimp only at hSw
              go_simp
              try with_reducible rfl
            try simp only [Act.put, List.getElem_toArray, List.getElem_cons_succ, List.getElem_cons_zero, List.setIfInBounds_toArray, List.set_cons_zero, List.set_cons_succ]
            refine AnyBut.takeS (i := 16) (v := ?v1602022) rfl (by kernel_rfl) (Nat.le_of_eq (by kernel_rfl)) (by kernel_rfl) (by kernel_rfl) (fun _ _ _ h => h) (HS18.out) (Or.inl ⟨by kernel_rfl, ?hy1602022⟩) ?r1602022
            case hy1602022 =>
              intro w hSw
              try dsimp only at hSw
              go_simp
              try with_reducible rfl
            try simp only [Act.put, List.getElem_toArray, List.getElem_cons_succ, List.getElem_cons_zero, List.setIfInBounds_toArray, List.set_cons_zero, List.set_cons_succ]
            refine AnyBut.one (i := 12) (by kernel_rfl) rfl (fun K hK => ?_)
            go_simp
            go_wp2_with fail
            refine HAT.out.mono ?_
            rintro e w' ⟨rfl, rfl⟩
            go_wp2
            refine hK.out _ _ (HS18.out) ?_
            clear hK K
            try simp only [Act.put, List.getElem_toArray, List.getElem_cons_succ, List.getElem_cons_zero, List.setIfInBounds_toArray, List.set_cons_zero, List.set_cons_succ]
            refine AnyBut.takeS (i := 17) (v := ?v1702022) rfl (by kernel_rfl) (Nat.le_of_eq (by kernel_rfl)) (by kernel_rfl) (by kernel_rfl) (fun _ _ _ h => h) (HS18.out) (Or.inl ⟨by kernel_rfl, ?hy1702022⟩) ?r1702022
            case hy1702022 =>
              intro w hSw
              try dsimp only at hSw
              go_simp
              try with_reducible rfl
            try simp only [Act.put, List.getElem_toArray, List.getElem_cons_succ, List.getElem_cons_zero, List.setIfInBounds_toArray, List.set_cons_zero, List.set_cons_succ]
            refine AnyBut.takeS (i := 18) (v := ?v1802022) rfl (by kernel_rfl) (Nat.le_of_eq (by kernel_rfl)) (by kernel_rfl) (by kernel_rfl) (fun _ _ _ h => h) (HS18.out) (Or.inl ⟨by kernel_rfl, ?hy1802022⟩) ?r1802022
            case hy1802022 =>
              intro w hSw
              try dsimp only at hSw
              go_simp
              try with_reducible rfl
            try simp only [Act.put, List.getElem_toArray, List.getElem_cons_succ, List.getElem_cons_zero, List.setIfInBounds_toArray, List.set_cons_zero, List.set_cons_succ]
            refine AnyBut.done (by kernel_rfl) ?_
            obtain ⟨g0, g1, g2, g3, g4, g5⟩ := N11.out.c
            obtain ⟨u0, u1, u2⟩ := X11.out.st.c
            have z0 := X11.out.st.f 0
            have z1 := X11.out.st.f 1
            have z2 := X11.out.st.f 2
            go_upto_region 25 with fail
            have x12 := X11.out.setSt HALT.out HGG.out (.slice la ln lc7) M11.out
            have n12 := N11.out.same (set3_kept w11 sq (.slice la ln lc7) (.int .i64 (F' : Int)) (.int .i64 (S' : Int))) (fun e => boxT N11.out X11.out.st (by decide) e)
            obtain ⟨w12, hw12⟩ : ∃ w', w' = set3 w11 sq (.slice la ln lc7) (.int .i64 (F' : Int)) (.int .i64 (S' : Int)) := ⟨_, rfl⟩
            rw [← hw12] at x12 n12
            unfold set3 at hw12
            rw [← hw12]
            have X12 := Lib.hid x12
            clear hw12 x12 g0 g1 g2 g3 g4 g5 u0 u1 u2 z0 z1 z2
            obtain ⟨g0, g1, g2, g3, g4, g5⟩ := n12.c
            clear n12
            go_wp2_with fail
            refine (HPY.out _ _ X12.out.wx).mono ?_
            intro e w13 hx13
            obtain ⟨rfl, v13, hq13⟩ := X12.out.yput hx13
            have X13 := Lib.hid hq13
            clear hq13
            clear hx13 g0 g1 g2 g3 g4 g5
            go_wp2
            go_roundg (n - (A ++ [V']).length)
            case measure => have := HD.out; have := HMM.out; simp; omega
            case rel => exact ⟨t2, A ++ [V'], _, _, by have := HD.out; have := HMM.out; simp; omega, rfl, by rw [List.length_append, ← HMM.out]; go_num, rfl, by rw [HT2E.out]; exact X13.out, HEQ.out, by have := HT2N.out; omega, HLT2.out⟩
        · have HGN := Lib.hid fun w' h => HGN0 w' h hE0
          have HE0 := Lib.hid hE0
          have ee : ((E : Int) != (E : Int)) = false := by simp
          have et : ((t : Int) != (t : Int)) = false := by simp
          have em : ((m : Int) != (m : Int)) = false := by simp
          have ez : ((E : Int) != 0) = true := by simp; omega
          have at_ : IntKind.i64.wrap (t : Int) = (t : Int) := by have := HNN.out; have := HBL.out; exact IntWalk.i64_in _ ⟨by omega, by omega⟩
          rw [← hf, ← hs, ← hm] at HGET
          have HGET := Lib.hid HGET
          unfold stV RGot at HGET
          rw [← hm]
          have hmn : m ≤ 60 := by omega
          clear hT hct hao2 hbx hdl hok hla hle hG hGdef hbl8 HGY0 HGN0 hd htN hm hea htl halt HI hf hs hE0
          go_wp2
          refine AnyBut.start (S := fun w' => w'.cell? ⟨sq, 0, none⟩ = some (.slice sa m sc) ∧ w'.cell? ⟨sq, 1, none⟩ = some (.int .i64 (f : Int)) ∧ w'.cell? ⟨sq, 2, none⟩ = some (.int .i64 (s : Int))) (k := 6) (by kernel_rfl) ?_
          obtain ⟨wd, hwd⟩ : ∃ w', w' = wr.drew := ⟨_, rfl⟩
          have KD := Lib.hid (Kept.refl (fun _ => False) wr).drew
          rw [← hwd] at KD ⊢
          have HS0 := Lib.hid (HSC.out _ _ _ _ _ _ (HTX.out.on KD.out))
          clear hwd
          refine AnyBut.take (i := 0) (v := ?v2052) rfl (by kernel_rfl) (by kernel_rfl) (by kernel_rfl) (by kernel_rfl) (fun _ _ _ h => h) (HS0.out) (Or.inl ⟨by kernel_rfl, ?hy2052⟩) ?r2052
          case hy2052 =>
            intro w hSw
            try dsimp only at hSw
            go_simp
            try with_reducible rfl
          try simp only [Act.put, List.getElem_toArray, List.getElem_cons_zero, List.setIfInBounds_toArray, List.set_cons_zero, List.set_cons_succ]
          refine AnyBut.take (i := 1) (v := ?v2053) rfl (by kernel_rfl) (by kernel_rfl) (by kernel_rfl) (by kernel_rfl) (fun _ _ _ h => h) (HS0.out) (Or.inl ⟨by kernel_rfl, ?hy2053⟩) ?r2053
          case hy2053 =>
            intro w hSw
            try dsimp only at hSw
            go_simp
            try with_reducible rfl
          try simp only [Act.put, List.getElem_toArray, List.getElem_cons_succ, List.getElem_cons_zero, List.setIfInBounds_toArray, List.set_cons_zero, List.set_cons_succ]
          refine AnyBut.take (i := 2) (v := ?v2054) rfl (by kernel_rfl) (by kernel_rfl) (by kernel_rfl) (by kernel_rfl) (fun _ _ _ h => h) (HS0.out) (Or.inl ⟨by kernel_rfl, ?hy2054⟩) ?r2054
          case hy2054 =>
            intro w hSw
            try dsimp only at hSw
            go_simp
            try with_reducible rfl
          try simp only [Act.put, List.getElem_toArray, List.getElem_cons_succ, List.getElem_cons_zero, List.setIfInBounds_toArray, List.set_cons_zero, List.set_cons_succ]
          refine AnyBut.take (i := 3) (v := ?v2055) rfl (by kernel_rfl) (by kernel_rfl) (by kernel_rfl) (by kernel_rfl) (fun _ _ _ h => h) (HS0.out) (Or.inl ⟨by kernel_rfl, ?hy2055⟩) ?r2055
          case hy2055 =>
            intro w hSw
            try dsimp only at hSw
            go_simp
            try with_reducible rfl
          try simp only [Act.put, List.getElem_toArray, List.getElem_cons_succ, List.getElem_cons_zero, List.setIfInBounds_toArray, List.set_cons_zero, List.set_cons_succ]
          refine AnyBut.two (i := 4) (j := 5) (by kernel_rfl) rfl rfl (fun K hK => ?_) (fun K hK => ?_)
          · go_simp
            go_wp2_with fail
            refine (HGET.out _ KD.out).mono ?_
            rintro e w7 ⟨v7, V', N', F', S', rfl, hok7, hno7, k7⟩
            obtain ⟨rfl, rfl, rfl⟩ := hno7 HE0.out
            clear hok7
            have K7 := Lib.hid (KD.out.trans k7)
            clear k7
            have HS7 := Lib.hid (HSC.out _ _ _ _ _ _ (HTX.out.on K7.out))
            go_wp2
            refine hK.out _ _ (HS7.out) ?_
            clear hK K
            try simp only [Act.put, List.getElem_toArray, List.getElem_cons_succ, List.getElem_cons_zero, List.setIfInBounds_toArray, List.set_cons_zero, List.set_cons_succ]
            refine AnyBut.one (i := 5) (by kernel_rfl) rfl (fun K hK => ?_)
            go_simp
            have HS9 := Lib.hid (HSC.out _ _ _ _ _ _ (HTX.out.on (K7.out.alloc (.cells #[.int .u64 0, .int .i64 0, .slice none 0 0, .int .i64 0, .int .i64 0, .int .i64 0] 69))))
            have HNB := Lib.hid (show GBox (w7.alloc (.cells #[.int .u64 0, .int .i64 0, .slice none 0 0, .int .i64 0, .int .i64 0, .int .i64 0] 69)) w7.heap.size 0 0 (.slice none 0 0) 0 0 0 from heap_alloc_new w7 _)
            have KL := Lib.hid (K7.out.alloc (.cells #[.int .u64 0, .int .i64 0, .slice none 0 0, .int .i64 0, .int .i64 0, .int .i64 0] 69))
            have HNQ := Lib.hid (show wr.heap.size ≤ w7.heap.size from K7.out.size)
            obtain ⟨gq, hnq⟩ : ∃ n, n = w7.heap.size := ⟨_, rfl⟩
            obtain ⟨w8, hw8⟩ : ∃ w', w' = w7.alloc (.cells #[.int .u64 0, .int .i64 0, .slice none 0 0, .int .i64 0, .int .i64 0, .int .i64 0] 69) := ⟨_, rfl⟩
            rw [← hw8] at HS9 HNB KL ⊢
            rw [← hnq] at HNB HNQ ⊢
            clear hnq hw8
            refine hK.out _ _ (HS9.out) ?_
            clear hK K
            try simp only [Act.put, List.getElem_toArray, List.getElem_cons_succ, List.getElem_cons_zero, List.setIfInBounds_toArray, List.set_cons_zero, List.set_cons_succ]
            refine AnyBut.last (by kernel_rfl) rfl (by kernel_rfl) (fun K hK => ?_)
            obtain ⟨g0, g1, g2, g3, g4, g5⟩ := HNB.out.c
            have y0 := HNB.out.f 0
            have y1 := HNB.out.f 1
            have y2 := HNB.out.f 2
            have y3 := HNB.out.f 3
            have y4 := HNB.out.f 4
            have y5 := HNB.out.f 5
            go_simp
            go_wp2
            refine hK.out _ _ ?_
            clear hK K
            try simp only [Act.put, List.getElem_toArray, List.getElem_cons_succ, List.getElem_cons_zero, List.setIfInBounds_toArray, List.set_cons_zero, List.set_cons_succ]
            obtain ⟨w9, hw9⟩ : ∃ w', w' = set6 w8 gq (.int .u64 (0 : Int)) (.int .i64 (0 : Int)) (.slice none 0 0) (.int .i64 (F' : Int)) (.int .i64 (S' : Int)) (.int .i64 (E : Int)) := ⟨_, rfl⟩
            have k9 := set6_kept w8 gq (.int .u64 (0 : Int)) (.int .i64 (0 : Int)) (.slice none 0 0) (.int .i64 (F' : Int)) (.int .i64 (S' : Int)) (.int .i64 (E : Int))
            have n9 := HNB.out.set 0 0 (.slice none 0 0) F' S' E
            rw [← hw9] at k9 n9
            have K9 := Lib.hid (KL.out.step k9 (fun j hj e => by have := HNQ.out; omega))
            have X9 := Lib.hid (HTX.out.on K9.out)
            have N9 := Lib.hid n9
            unfold set6 at hw9
            rw [← hw9]
            clear hw9 k9 n9 HNB KL g0 g1 g2 g3 g4 g5 y0 y1 y2 y3 y4 y5
            go_wp2_with fail
            refine (HGN.out _ X9.out).mono ?_
            intro e w10 hx10
            have K10 := Lib.hid hx10.2.2.2
            obtain ⟨rfl, hq10⟩ := X9.out.no hx10
            have X10 := Lib.hid hq10
            clear hq10
            have N10 := Lib.hid (N9.out.same K10.out (fun e => by rcases e with e | e; exact boxT N9.out X9.out.rd.rd.box (by decide) e; exact boxT N9.out X9.out.rd.row (by decide) e))
            clear hx10
            go_wp2
            refine AnyBut.start (S := fun w' => w'.cell? ⟨gq, 0, none⟩ = some (.int .u64 (0 : Int)) ∧ w'.cell? ⟨gq, 1, none⟩ = some (.int .i64 (0 : Int)) ∧ w'.cell? ⟨gq, 5, none⟩ = some (.int .i64 (E : Int))) (k := 19) (by kernel_rfl) ?_
            obtain ⟨w11, hw11⟩ : ∃ w', w' = w10.drew := ⟨_, rfl⟩
            have k11 : Kept (fun _ => False) w10 w11 := by rw [hw11]; exact (Kept.refl _ _).drew
            rw [← hw11]
            clear hw11
            have X11 := Lib.hid (X10.out.on k11)
            have N11 := Lib.hid (N10.out.same k11 (fun x => x))
            have HS18 := Lib.hid (And.intro N11.out.c.1 (And.intro N11.out.c.2.1 N11.out.c.2.2.2.2.2))
            have HAT := Lib.hid (bat_any W.heap.size p rv bs t w11 X11.out.rd.rd)
            clear k11
            refine AnyBut.takeS (i := 0) (v := ?v202303055) rfl (by kernel_rfl) (Nat.le_of_eq (by kernel_rfl)) (by kernel_rfl) (by kernel_rfl) (fun _ _ _ h => h) (HS18.out) (Or.inl ⟨by kernel_rfl, ?hy202303055⟩) ?r202303055
            case hy202303055 =>
              intro w hSw
              try dsimp only at hSw
              go_simp
              try with_reducible rfl
            try simp only [Act.put, List.getElem_toArray, List.getElem_cons_zero, List.setIfInBounds_toArray, List.set_cons_zero, List.set_cons_succ]
            refine AnyBut.takeS (i := 1) (v := ?v202403055) rfl (by kernel_rfl) (Nat.le_of_eq (by kernel_rfl)) (by kernel_rfl) (by kernel_rfl) (fun _ _ _ h => h) (HS18.out) (Or.inl ⟨by kernel_rfl, ?hy202403055⟩) ?r202403055
            case hy202403055 =>
              intro w hSw
              try dsimp only at hSw
              go_simp
              try with_reducible rfl
            try simp only [Act.put, List.getElem_toArray, List.getElem_cons_succ, List.getElem_cons_zero, List.setIfInBounds_toArray, List.set_cons_zero, List.set_cons_succ]
            refine AnyBut.takeS (i := 2) (v := ?v202503055) rfl (by kernel_rfl) (Nat.le_of_eq (by kernel_rfl)) (by kernel_rfl) (by kernel_rfl) (fun _ _ _ h => h) (HS18.out) (Or.inl ⟨by kernel_rfl, ?hy202503055⟩) ?r202503055
            case hy202503055 =>
              intro w hSw
              try dsimp only at hSw
              go_simp
              try with_reducible rfl
            try simp only [Act.put, List.getElem_toArray, List.getElem_cons_succ, List.getElem_cons_zero, List.setIfInBounds_toArray, List.set_cons_zero, List.set_cons_succ]
            refine AnyBut.takeS (i := 3) (v := ?v202603055) rfl (by kernel_rfl) (Nat.le_of_eq (by kernel_rfl)) (by kernel_rfl) (by kernel_rfl) (fun _ _ _ h => h) (HS18.out) (Or.inl ⟨by kernel_rfl, ?hy202603055⟩) ?r202603055
            case hy202603055 =>
              intro w hSw
              try dsimp only at hSw
              go_simp
              try with_reducible rfl
            try simp only [Act.put, List.getElem_toArray, List.getElem_cons_succ, List.getElem_cons_zero, List.setIfInBounds_toArray, List.set_cons_zero, List.set_cons_succ]
            refine AnyBut.takeS (i := 4) (v := ?v202703055) rfl (by kernel_rfl) (Nat.le_of_eq (by kernel_rfl)) (by kernel_rfl) (by kernel_rfl) (fun _ _ _ h => h) (HS18.out) (Or.inl ⟨by kernel_rfl, ?hy202703055⟩) ?r202703055
            case hy202703055 =>
              intro w hSw
              try dsimp only at hSw
              go_simp
              try with_reducible rfl
            try simp only [Act.put, List.getElem_toArray, List.getElem_cons_succ, List.getElem_cons_zero, List.setIfInBounds_toArray, List.set_cons_zero, List.set_cons_succ]
            refine AnyBut.takeS (i := 5) (v := ?v202803055) rfl (by kernel_rfl) (Nat.le_of_eq (by kernel_rfl)) (by kernel_rfl) (by kernel_rfl) (fun _ _ _ h => h) (HS18.out) (Or.inl ⟨by kernel_rfl, ?hy202803055⟩) ?r202803055
            case hy202803055 =>
              intro w hSw
              try dsimp only at hSw
              go_simp
              try with_reducible rfl
            try simp only [Act.put, List.getElem_toArray, List.getElem_cons_succ, List.getElem_cons_zero, List.setIfInBounds_toArray, List.set_cons_zero, List.set_cons_succ]
            refine AnyBut.takeS (i := 6) (v := ?v202903055) rfl (by kernel_rfl) (Nat.le_of_eq (by kernel_rfl)) (by kernel_rfl) (by kernel_rfl) (fun _ _ _ h => h) (HS18.out) (Or.inl ⟨by kernel_rfl, ?hy202903055⟩) ?r202903055
            case hy202903055 =>
              intro w hSw
              try dsimp only at hSw
              go_simp
              try with_reducible rfl
            try simp only [Act.put, List.getElem_toArray, List.getElem_cons_succ, List.getElem_cons_zero, List.setIfInBounds_toArray, List.set_cons_zero, List.set_cons_succ]
            refine AnyBut.takeS (i := 7) (v := ?v203003055) rfl (by kernel_rfl) (Nat.le_of_eq (by kernel_rfl)) (by kernel_rfl) (by kernel_rfl) (fun _ _ _ h => h) (HS18.out) (Or.inl ⟨by kernel_rfl, ?hy203003055⟩) ?r203003055
            case hy203003055 =>
              intro w hSw
              try dsimp only at hSw
              go_simp
              try with_reducible rfl
            try simp only [Act.put, List.getElem_toArray, List.getElem_cons_succ, List.getElem_cons_zero, List.setIfInBounds_toArray, List.set_cons_zero, List.set_cons_succ]
            refine AnyBut.takeS (i := 8) (v := ?v203103055) rfl (by kernel_rfl) (Nat.le_of_eq (by kernel_rfl)) (by kernel_rfl) (by kernel_rfl) (fun _ _ _ h => h) (HS18.out) (Or.inl ⟨by kernel_rfl, ?hy203103055⟩) ?r203103055
            case hy203103055 =>
              intro w hSw
              try dsimp only at hSw
              go_simp
              try with_reducible rfl
            try simp only [Act.put, List.getElem_toArray, List.getElem_cons_succ, List.getElem_cons_zero, List.setIfInBounds_toArray, List.set_cons_zero, List.set_cons_succ]
            refine AnyBut.takeS (i := 9) (v := ?v203203055) rfl (by kernel_rfl) (Nat.le_of_eq (by kernel_rfl)) (by kernel_rfl) (by kernel_rfl) (fun _ _ _ h => h) (HS18.out) (Or.inl ⟨by kernel_rfl, ?hy203203055⟩) ?r203203055
            case hy203203055 =>
              intro w hSw
              try dsimp only at hSw
              go_simp
              try with_reducible rfl
            try simp only [Act.put, List.getElem_toArray, List.getElem_cons_succ, List.getElem_cons_zero, List.setIfInBounds_toArray, List.set_cons_zero, List.set_cons_succ]
            refine AnyBut.takeS (i := 10) (v := ?v203303055) rfl (by kernel_rfl) (Nat.le_of_eq (by kernel_rfl)) (by kernel_rfl) (by kernel_rfl) (fun _ _ _ h => h) (HS18.out) (Or.inl ⟨by kernel_rfl, ?hy203303055⟩) ?r203303055
            case hy203303055 =>
              intro w hSw
              try dsimp only at hSw
              go_simp
              try with_reducible rfl
            try simp only [Act.put, List.getElem_toArray, List.getElem_cons_succ, List.getElem_cons_zero, List.setIfInBounds_toArray, List.set_cons_zero, List.set_cons_succ]
            refine AnyBut.takeS (i := 11) (v := ?v203403055) rfl (by kernel_rfl) (Nat.le_of_eq (by kernel_rfl)) (by kernel_rfl) (by kernel_rfl) (fun _ _ _ h => h) (HS18.out) (Or.inl ⟨by kernel_rfl, ?hy203403055⟩) ?r203403055
            case hy203403055 =>
              intro w hSw
              try dsimp only at hSw
              go_simp
              try with_reducible rfl
            try simp only [Act.put, List.getElem_toArray, List.getElem_cons_succ, List.getElem_cons_zero, List.setIfInBounds_toArray, List.set_cons_zero, List.set_cons_succ]
            refine AnyBut.takeS (i := 13) (v := ?v203503055) rfl (by kernel_rfl) (Nat.le_of_eq (by kernel_rfl)) (by kernel_rfl) (by kernel_rfl) (fun _ _ _ h => h) (HS18.out) (Or.inl ⟨by kernel_rfl, ?hy203503055⟩) ?r203503055
            case hy203503055 =>
              intro w hSw
              try dsimp only at hSw
              go_simp
              try with_reducible rfl
            try simp only [Act.put, List.getElem_toArray, List.getElem_cons_succ, List.getElem_cons_zero, List.setIfInBounds_toArray, List.set_cons_zero, List.set_cons_succ]
            refine AnyBut.takeS (i := 14) (v := ?v203603055) rfl (by kernel_rfl) (Nat.le_of_eq (by kernel_rfl)) (by kernel_rfl) (by kernel_rfl) (fun _ _ _ h => h) (HS18.out) (Or.inl ⟨by kernel_rfl, ?hy203603055⟩) ?r203603055
            case hy203603055 =>
              intro w hSw
              try dsimp only at hSw
              go_simp
              try with_reducible rfl
            try simp only [Act.put, List.getElem_toArray, List.getElem_cons_succ, List.getElem_cons_zero, List.setIfInBounds_toArray, List.set_cons_zero, List.set_cons_succ]
            refine AnyBut.takeS (i := 15) (v := ?v203703055) rfl (by kernel_rfl) (Nat.le_of_eq (by kernel_rfl)) (by kernel_rfl) (by kernel_rfl) (fun _ _ _ h => h) (HS18.out) (Or.inl ⟨by kernel_rfl, ?hy203703055⟩) ?r203703055
            case hy203703055 =>
              intro w hSw
              try dsimp only at hSw
              go_simp
              try with_reducible rfl
            try simp only [Act.put, List.getElem_toArray, List.getElem_cons_succ, List.getElem_cons_zero, List.setIfInBounds_toArray, List.set_cons_zero, List.set_cons_succ]
            refine AnyBut.takeS (i := 16) (v := ?v203803055) rfl (by kernel_rfl) (Nat.le_of_eq (by kernel_rfl)) (by kernel_rfl) (by kernel_rfl) (fun _ _ _ h => h) (HS18.out) (Or.inl ⟨by kernel_rfl, ?hy203803055⟩) ?r203803055
            case hy203803055 =>
              intro w hSw
              try dsimp only at hSw
              go_simp
              try with_reducible rfl
            try simp only [Act.put, List.getElem_toArray, List.getElem_cons_succ, List.getElem_cons_zero, List.setIfInBounds_toArray, List.set_cons_zero, List.set_cons_succ]
            refine AnyBut.one (i := 12) (by kernel_rfl) rfl (fun K hK => ?_)
            go_simp
            go_wp2_with fail
            refine HAT.out.mono ?_
            rintro e w' ⟨rfl, rfl⟩
            go_wp2
            refine hK.out _ _ (HS18.out) ?_
            clear hK K
            try simp only [Act.put, List.getElem_toArray, List.getElem_cons_succ, List.getElem_cons_zero, List.setIfInBounds_toArray, List.set_cons_zero, List.set_cons_succ]
            refine AnyBut.takeS (i := 17) (v := ?v203903055) rfl (by kernel_rfl) (Nat.le_of_eq (by kernel_rfl)) (by kernel_rfl) (by kernel_rfl) (fun _ _ _ h => h) (HS18.out) (Or.inl ⟨by kernel_rfl, ?hy203903055⟩) ?r203903055
            case hy203903055 =>
              intro w hSw
              try dsimp only at hSw
              go_simp
              try with_reducible rfl
            try simp only [Act.put, List.getElem_toArray, List.getElem_cons_succ, List.getElem_cons_zero, List.setIfInBounds_toArray, List.set_cons_zero, List.set_cons_succ]
            refine AnyBut.takeS (i := 18) (v := ?v204003055) rfl (by kernel_rfl) (Nat.le_of_eq (by kernel_rfl)) (by kernel_rfl) (by kernel_rfl) (fun _ _ _ h => h) (HS18.out) (Or.inl ⟨by kernel_rfl, ?hy204003055⟩) ?r204003055
            case hy204003055 =>
              intro w hSw
              try dsimp only at hSw
              go_simp
              try with_reducible rfl
            try simp only [Act.put, List.getElem_toArray, List.getElem_cons_succ, List.getElem_cons_zero, List.setIfInBounds_toArray, List.set_cons_zero, List.set_cons_succ]
            refine AnyBut.done (by kernel_rfl) ?_
            go_wp2_with fail
            refine (HGN.out _ X11.out).mono ?_
            intro e w12 hx12
            have K12 := Lib.hid hx12.2.2.2
            obtain ⟨rfl, hq12⟩ := X11.out.no hx12
            have X12 := Lib.hid hq12
            clear hq12
            have N12 := Lib.hid (N11.out.same K12.out (fun e => by rcases e with e | e; exact boxT N11.out X11.out.rd.rd.box (by decide) e; exact boxT N11.out X11.out.rd.row (by decide) e))
            clear hx12
            go_wp2
            refine AnyBut.start (S := fun w' => w'.cell? ⟨gq, 5, none⟩ = some (.int .i64 (E : Int)) ∧ w'.cell? ⟨sq, 0, none⟩ = some (.slice sa m sc)) (k := 12) (by kernel_rfl) ?_
            obtain ⟨w13, hw13⟩ : ∃ w', w' = w12.drew := ⟨_, rfl⟩
            have k13 : Kept (fun _ => False) w12 w13 := by rw [hw13]; exact (Kept.refl _ _).drew
            rw [← hw13]
            clear hw13
            have X13 := Lib.hid (X12.out.on k13)
            have N13 := Lib.hid (N12.out.same k13 (fun x => x))
            have HS22 := Lib.hid (And.intro N13.out.c.2.2.2.2.2 (HSC.out _ _ _ _ _ _ X13.out).1)
            have hln := X13.out.rd.row
            rw [← HMM.out] at hln
            have HLN := Lib.hid (xrowLen_any rx m _ _ _ w13 hln)
            clear hln k13
            refine AnyBut.takeS (i := 0) (v := ?v204103055) rfl (by kernel_rfl) (Nat.le_of_eq (by kernel_rfl)) (by kernel_rfl) (by kernel_rfl) (fun _ _ _ h => h) (HS22.out) (Or.inl ⟨by kernel_rfl, ?hy204103055⟩) ?r204103055
            case hy204103055 =>
              intro w hSw
              try dsimp only at hSw
              go_simp
              try with_reducible rfl
            try simp only [Act.put, List.getElem_toArray, List.getElem_cons_zero, List.setIfInBounds_toArray, List.set_cons_zero, List.set_cons_succ]
            refine AnyBut.takeS (i := 1) (v := ?v204203055) rfl (by kernel_rfl) (Nat.le_of_eq (by kernel_rfl)) (by kernel_rfl) (by kernel_rfl) (fun _ _ _ h => h) (HS22.out) (Or.inl ⟨by kernel_rfl, ?hy204203055⟩) ?r204203055
            case hy204203055 =>
              intro w hSw
              try dsimp only at hSw
              go_simp
              try with_reducible rfl
            try simp only [Act.put, List.getElem_toArray, List.getElem_cons_succ, List.getElem_cons_zero, List.setIfInBounds_toArray, List.set_cons_zero, List.set_cons_succ]
            refine AnyBut.takeS (i := 2) (v := ?v204303055) rfl (by kernel_rfl) (Nat.le_of_eq (by kernel_rfl)) (by kernel_rfl) (by kernel_rfl) (fun _ _ _ h => h) (HS22.out) (Or.inl ⟨by kernel_rfl, ?hy204303055⟩) ?r204303055
            case hy204303055 =>
              intro w hSw
              try dsimp only at hSw
              go_simp
              try with_reducible rfl
            try simp only [Act.put, List.getElem_toArray, List.getElem_cons_succ, List.getElem_cons_zero, List.setIfInBounds_toArray, List.set_cons_zero, List.set_cons_succ]
            refine AnyBut.takeS (i := 3) (v := ?v204403055) rfl (by kernel_rfl) (Nat.le_of_eq (by kernel_rfl)) (by kernel_rfl) (by kernel_rfl) (fun _ _ _ h => h) (HS22.out) (Or.inl ⟨by kernel_rfl, ?hy204403055⟩) ?r204403055
            case hy204403055 =>
              intro w hSw
              try dsimp only at hSw
              go_simp
              try with_reducible rfl
            try simp only [Act.put, List.getElem_toArray, List.getElem_cons_succ, List.getElem_cons_zero, List.setIfInBounds_toArray, List.set_cons_zero, List.set_cons_succ]
            refine AnyBut.takeS (i := 4) (v := ?v204503055) rfl (by kernel_rfl) (Nat.le_of_eq (by kernel_rfl)) (by kernel_rfl) (by kernel_rfl) (fun _ _ _ h => h) (HS22.out) (Or.inl ⟨by kernel_rfl, ?hy204503055⟩) ?r204503055
            case hy204503055 =>
              intro w hSw
              try dsimp only at hSw
              go_simp
              try with_reducible rfl
            try simp only [Act.put, List.getElem_toArray, List.getElem_cons_succ, List.getElem_cons_zero, List.setIfInBounds_toArray, List.set_cons_zero, List.set_cons_succ]
            refine AnyBut.takeS (i := 5) (v := ?v204603055) rfl (by kernel_rfl) (Nat.le_of_eq (by kernel_rfl)) (by kernel_rfl) (by kernel_rfl) (fun _ _ _ h => h) (HS22.out) (Or.inl ⟨by kernel_rfl, ?hy204603055⟩) ?r204603055
            case hy204603055 =>
              intro w hSw
              try dsimp only at hSw
              go_simp
              try with_reducible rfl
            try simp only [Act.put, List.getElem_toArray, List.getElem_cons_succ, List.getElem_cons_zero, List.setIfInBounds_toArray, List.set_cons_zero, List.set_cons_succ]
            refine AnyBut.takeS (i := 7) (v := ?v204703055) rfl (by kernel_rfl) (Nat.le_of_eq (by kernel_rfl)) (by kernel_rfl) (by kernel_rfl) (fun _ _ _ h => h) (HS22.out) (Or.inl ⟨by kernel_rfl, ?hy204703055⟩) ?r204703055
            case hy204703055 =>
              intro w hSw
              try dsimp only at hSw
              go_simp
              try with_reducible rfl
            try simp only [Act.put, List.getElem_toArray, List.getElem_cons_succ, List.getElem_cons_zero, List.setIfInBounds_toArray, List.set_cons_zero, List.set_cons_succ]
            refine AnyBut.takeS (i := 8) (v := ?v204803055) rfl (by kernel_rfl) (Nat.le_of_eq (by kernel_rfl)) (by kernel_rfl) (by kernel_rfl) (fun _ _ _ h => h) (HS22.out) (Or.inl ⟨by kernel_rfl, ?hy204803055⟩) ?r204803055
            case hy204803055 =>
              intro w hSw
              try dsimp only at hSw
              go_simp
              try with_reducible rfl
            try simp only [Act.put, List.getElem_toArray, List.getElem_cons_succ, List.getElem_cons_zero, List.setIfInBounds_toArray, List.set_cons_zero, List.set_cons_succ]
            refine AnyBut.takeS (i := 9) (v := ?v204903055) rfl (by kernel_rfl) (Nat.le_of_eq (by kernel_rfl)) (by kernel_rfl) (by kernel_rfl) (fun _ _ _ h => h) (HS22.out) (Or.inl ⟨by kernel_rfl, ?hy204903055⟩) ?r204903055
            case hy204903055 =>
              intro w hSw
              try dsimp only at hSw
              go_simp
              try with_reducible rfl
            try simp only [Act.put, List.getElem_toArray, List.getElem_cons_succ, List.getElem_cons_zero, List.setIfInBounds_toArray, List.set_cons_zero, List.set_cons_succ]
            refine AnyBut.one (i := 6) (by kernel_rfl) rfl (fun K hK => ?_)
            go_simp
            go_wp2_with fail
            refine HLN.out.mono ?_
            rintro e w' ⟨rfl, rfl⟩
            go_wp2
            refine hK.out _ _ (HS22.out) ?_
            clear hK K
            try simp only [Act.put, List.getElem_toArray, List.getElem_cons_succ, List.getElem_cons_zero, List.setIfInBounds_toArray, List.set_cons_zero, List.set_cons_succ]
            refine AnyBut.takeS (i := 10) (v := ?v205003055) rfl (by kernel_rfl) (Nat.le_of_eq (by kernel_rfl)) (by kernel_rfl) (by kernel_rfl) (fun _ _ _ h => h) (HS22.out) (Or.inl ⟨by kernel_rfl, ?hy205003055⟩) ?r205003055
            case hy205003055 =>
              intro w hSw
              try dsimp only at hSw
              go_simp
              try with_reducible rfl
            try simp only [Act.put, List.getElem_toArray, List.getElem_cons_succ, List.getElem_cons_zero, List.setIfInBounds_toArray, List.set_cons_zero, List.set_cons_succ]
            refine AnyBut.takeS (i := 11) (v := ?v205103055) rfl (by kernel_rfl) (Nat.le_of_eq (by kernel_rfl)) (by kernel_rfl) (by kernel_rfl) (fun _ _ _ h => h) (HS22.out) (Or.inl ⟨by kernel_rfl, ?hy205103055⟩) ?r205103055
            case hy205103055 =>
              intro w hSw
              try dsimp only at hSw
              go_simp
              try with_reducible rfl
            try simp only [Act.put, List.getElem_toArray, List.getElem_cons_succ, List.getElem_cons_zero, List.setIfInBounds_toArray, List.set_cons_zero, List.set_cons_succ]
            refine AnyBut.done (by kernel_rfl) ?_
            go_wp2
            go_meet
            case rel => exact ⟨t, A, _, _, by have := HMM.out; omega, rfl, X13.out, HEQA.out⟩
          · go_simp
            have HS9 := Lib.hid (HSC.out _ _ _ _ _ _ (HTX.out.on (KD.out.alloc (.cells #[.int .u64 0, .int .i64 0, .slice none 0 0, .int .i64 0, .int .i64 0, .int .i64 0] 69))))
            have HNB0 := Lib.hid (show GBox (wd.alloc (.cells #[.int .u64 0, .int .i64 0, .slice none 0 0, .int .i64 0, .int .i64 0, .int .i64 0] 69)) wd.heap.size 0 0 (.slice none 0 0) 0 0 0 from heap_alloc_new wd _)
            have KE := Lib.hid (KD.out.alloc (.cells #[.int .u64 0, .int .i64 0, .slice none 0 0, .int .i64 0, .int .i64 0, .int .i64 0] 69))
            have HNQ := Lib.hid (show wr.heap.size ≤ wd.heap.size from KD.out.size)
            obtain ⟨gq, hnq⟩ : ∃ n, n = wd.heap.size := ⟨_, rfl⟩
            obtain ⟨we, hwe⟩ : ∃ w', w' = wd.alloc (.cells #[.int .u64 0, .int .i64 0, .slice none 0 0, .int .i64 0, .int .i64 0, .int .i64 0] 69) := ⟨_, rfl⟩
            rw [← hwe] at HS9 HNB0 KE ⊢
            rw [← hnq] at HNB0 HNQ ⊢
            clear hnq hwe
            refine hK.out _ _ (HS9.out) ?_
            clear hK K
            try simp only [Act.put, List.getElem_toArray, List.getElem_cons_succ, List.getElem_cons_zero, List.setIfInBounds_toArray, List.set_cons_zero, List.set_cons_succ]
            refine AnyBut.one (i := 4) (by kernel_rfl) rfl (fun K hK => ?_)
            go_simp
            go_wp2_with fail
            refine (HGET.out _ KE.out).mono ?_
            rintro e w7 ⟨v7, V', N', F', S', rfl, hok7, hno7, k7⟩
            obtain ⟨rfl, rfl, rfl⟩ := hno7 HE0.out
            clear hok7
            obtain ⟨w8, hw8⟩ : ∃ w', w' = w7 := ⟨_, rfl⟩
            have HNB := Lib.hid (HNB0.out.same k7 (fun x => x))
            have KL := Lib.hid (KE.out.trans k7)
            rw [← hw8] at HNB KL ⊢
            clear k7 hw8
            have HS7 := Lib.hid (HSC.out _ _ _ _ _ _ (HTX.out.on KL.out))
            go_wp2
            refine hK.out _ _ (HS7.out) ?_
            clear hK K
            try simp only [Act.put, List.getElem_toArray, List.getElem_cons_succ, List.getElem_cons_zero, List.setIfInBounds_toArray, List.set_cons_zero, List.set_cons_succ]
            refine AnyBut.last (by kernel_rfl) rfl (by kernel_rfl) (fun K hK => ?_)
            obtain ⟨g0, g1, g2, g3, g4, g5⟩ := HNB.out.c
            have y0 := HNB.out.f 0
            have y1 := HNB.out.f 1
            have y2 := HNB.out.f 2
            have y3 := HNB.out.f 3
            have y4 := HNB.out.f 4
            have y5 := HNB.out.f 5
            go_simp
            go_wp2
            refine hK.out _ _ ?_
            clear hK K
            try simp only [Act.put, List.getElem_toArray, List.getElem_cons_succ, List.getElem_cons_zero, List.setIfInBounds_toArray, List.set_cons_zero, List.set_cons_succ]
            obtain ⟨w9, hw9⟩ : ∃ w', w' = set6 w8 gq (.int .u64 (0 : Int)) (.int .i64 (0 : Int)) (.slice none 0 0) (.int .i64 (F' : Int)) (.int .i64 (S' : Int)) (.int .i64 (E : Int)) := ⟨_, rfl⟩
            have k9 := set6_kept w8 gq (.int .u64 (0 : Int)) (.int .i64 (0 : Int)) (.slice none 0 0) (.int .i64 (F' : Int)) (.int .i64 (S' : Int)) (.int .i64 (E : Int))
            have n9 := HNB.out.set 0 0 (.slice none 0 0) F' S' E
            rw [← hw9] at k9 n9
            have K9 := Lib.hid (KL.out.step k9 (fun j hj e => by have := HNQ.out; omega))
            have X9 := Lib.hid (HTX.out.on K9.out)
            have N9 := Lib.hid n9
            unfold set6 at hw9
            rw [← hw9]
            clear hw9 k9 n9 HNB KL g0 g1 g2 g3 g4 g5 y0 y1 y2 y3 y4 y5
            go_wp2_with fail
            refine (HGN.out _ X9.out).mono ?_
            intro e w10 hx10
            have K10 := Lib.hid hx10.2.2.2
            obtain ⟨rfl, hq10⟩ := X9.out.no hx10
            have X10 := Lib.hid hq10
            clear hq10
            have N10 := Lib.hid (N9.out.same K10.out (fun e => by rcases e with e | e; exact boxT N9.out X9.out.rd.rd.box (by decide) e; exact boxT N9.out X9.out.rd.row (by decide) e))
            clear hx10
            go_wp2
            refine AnyBut.start (S := fun w' => w'.cell? ⟨gq, 0, none⟩ = some (.int .u64 (0 : Int)) ∧ w'.cell? ⟨gq, 1, none⟩ = some (.int .i64 (0 : Int)) ∧ w'.cell? ⟨gq, 5, none⟩ = some (.int .i64 (E : Int))) (k := 19) (by kernel_rfl) ?_
            obtain ⟨w11, hw11⟩ : ∃ w', w' = w10.drew := ⟨_, rfl⟩
            have k11 : Kept (fun _ => False) w10 w11 := by rw [hw11]; exact (Kept.refl _ _).drew
            rw [← hw11]
            clear hw11
            have X11 := Lib.hid (X10.out.on k11)
            have N11 := Lib.hid (N10.out.same k11 (fun x => x))
            have HS18 := Lib.hid (And.intro N11.out.c.1 (And.intro N11.out.c.2.1 N11.out.c.2.2.2.2.2))
            have HAT := Lib.hid (bat_any W.heap.size p rv bs t w11 X11.out.rd.rd)
            clear k11
            refine AnyBut.takeS (i := 0) (v := ?v202304055) rfl (by kernel_rfl) (Nat.le_of_eq (by kernel_rfl)) (by kernel_rfl) (by kernel_rfl) (fun _ _ _ h => h) (HS18.out) (Or.inl ⟨by kernel_rfl, ?hy202304055⟩) ?r202304055
            case hy202304055 =>
              intro w hSw
              try dsimp only at hSw
              go_simp
              try with_reducible rfl
            try simp only [Act.put, List.getElem_toArray, List.getElem_cons_zero, List.setIfInBounds_toArray, List.set_cons_zero, List.set_cons_succ]
            refine AnyBut.takeS (i := 1) (v := ?v202404055) rfl (by kernel_rfl) (Nat.le_of_eq (by kernel_rfl)) (by kernel_rfl) (by kernel_rfl) (fun _ _ _ h => h) (HS18.out) (Or.inl ⟨by kernel_rfl, ?hy202404055⟩) ?r202404055
            case hy202404055 =>
              intro w hSw
              try dsimp only at hSw
              go_simp
              try with_reducible rfl
            try simp only [Act.put, List.getElem_toArray, List.getElem_cons_succ, List.getElem_cons_zero, List.setIfInBounds_toArray, List.set_cons_zero, List.set_cons_succ]
            refine AnyBut.takeS (i := 2) (v := ?v202504055) rfl (by kernel_rfl) (Nat.le_of_eq (by kernel_rfl)) (by kernel_rfl) (by kernel_rfl) (fun _ _ _ h => h) (HS18.out) (Or.inl ⟨by kernel_rfl, ?hy202504055⟩) ?r202504055
            case hy202504055 =>
              intro w hSw
              try dsimp only at hSw
              go_simp
              try with_reducible rfl
            try simp only [Act.put, List.getElem_toArray, List.getElem_cons_succ, List.getElem_cons_zero, List.setIfInBounds_toArray, List.set_cons_zero, List.set_cons_succ]
            refine AnyBut.takeS (i := 3) (v := ?v202604055) rfl (by kernel_rfl) (Nat.le_of_eq (by kernel_rfl)) (by kernel_rfl) (by kernel_rfl) (fun _ _ _ h => h) (HS18.out) (Or.inl ⟨by kernel_rfl, ?hy202604055⟩) ?r202604055
            case hy202604055 =>
              intro w hSw
              try dsimp only at hSw
              go_simp
              try with_reducible rfl
            try simp only [Act.put, List.getElem_toArray, List.getElem_cons_succ, List.getElem_cons_zero, List.setIfInBounds_toArray, List.set_cons_zero, List.set_cons_succ]
            refine AnyBut.takeS (i := 4) (v := ?v202704055) rfl (by kernel_rfl) (Nat.le_of_eq (by kernel_rfl)) (by kernel_rfl) (by kernel_rfl) (fun _ _ _ h => h) (HS18.out) (Or.inl ⟨by kernel_rfl, ?hy202704055⟩) ?r202704055
            case hy202704055 =>
              intro w hSw
              try dsimp only at hSw
              go_simp
              try with_reducible rfl
            try simp only [Act.put, List.getElem_toArray, List.getElem_cons_succ, List.getElem_cons_zero, List.setIfInBounds_toArray, List.set_cons_zero, List.set_cons_succ]
            refine AnyBut.takeS (i := 5) (v := ?v202804055) rfl (by kernel_rfl) (Nat.le_of_eq (by kernel_rfl)) (by kernel_rfl) (by kernel_rfl) (fun _ _ _ h => h) (HS18.out) (Or.inl ⟨by kernel_rfl, ?hy202804055⟩) ?r202804055
            case hy202804055 =>
              intro w hSw
              try dsimp only at hSw
              go_simp
              try with_reducible rfl
            try simp only [Act.put, List.getElem_toArray, List.getElem_cons_succ, List.getElem_cons_zero, List.setIfInBounds_toArray, List.set_cons_zero, List.set_cons_succ]
            refine AnyBut.takeS (i := 6) (v := ?v202904055) rfl (by kernel_rfl) (Nat.le_of_eq (by kernel_rfl)) (by kernel_rfl) (by kernel_rfl) (fun _ _ _ h => h) (HS18.out) (Or.inl ⟨by kernel_rfl, ?hy202904055⟩) ?r202904055
            case hy202904055 =>
              intro w hSw
              try dsimp only at hSw
              go_simp
              try with_reducible rfl
            try simp only [Act.put, List.getElem_toArray, List.getElem_cons_succ, List.getElem_cons_zero, List.setIfInBounds_toArray, List.set_cons_zero, List.set_cons_succ]
            refine AnyBut.takeS (i := 7) (v := ?v203004055) rfl (by kernel_rfl) (Nat.le_of_eq (by kernel_rfl)) (by kernel_rfl) (by kernel_rfl) (fun _ _ _ h => h) (HS18.out) (Or.inl ⟨by kernel_rfl, ?hy203004055⟩) ?r203004055
            case hy203004055 =>
              intro w hSw
              try dsimp only at hSw
              go_simp
              try with_reducible rfl
            try simp only [Act.put, List.getElem_toArray, List.getElem_cons_succ, List.getElem_cons_zero, List.setIfInBounds_toArray, List.set_cons_zero, List.set_cons_succ]
            refine AnyBut.takeS (i := 8) (v := ?v203104055) rfl (by kernel_rfl) (Nat.le_of_eq (by kernel_rfl)) (by kernel_rfl) (by kernel_rfl) (fun _ _ _ h => h) (HS18.out) (Or.inl ⟨by kernel_rfl, ?hy203104055⟩) ?r203104055
            case hy203104055 =>
              intro w hSw
              try dsimp only at hSw
              go_simp
              try with_reducible rfl
            try simp only [Act.put, List.getElem_toArray, List.getElem_cons_succ, List.getElem_cons_zero, List.setIfInBounds_toArray, List.set_cons_zero, List.set_cons_succ]
            refine AnyBut.takeS (i := 9) (v := ?v203204055) rfl (by kernel_rfl) (Nat.le_of_eq (by kernel_rfl)) (by kernel_rfl) (by kernel_rfl) (fun _ _ _ h => h) (HS18.out) (Or.inl ⟨by kernel_rfl, ?hy203204055⟩) ?r203204055
            case hy203204055 =>
              intro w hSw
              try dsimp only at hSw
              go_simp
              try with_reducible rfl
            try simp only [Act.put, List.getElem_toArray, List.getElem_cons_succ, List.getElem_cons_zero, List.setIfInBounds_toArray, List.set_cons_zero, List.set_cons_succ]
            refine AnyBut.takeS (i := 10) (v := ?v203304055) rfl (by kernel_rfl) (Nat.le_of_eq (by kernel_rfl)) (by kernel_rfl) (by kernel_rfl) (fun _ _ _ h => h) (HS18.out) (Or.inl ⟨by kernel_rfl, ?hy203304055⟩) ?r203304055
            case hy203304055 =>
              intro w hSw
              try dsimp only at hSw
              go_simp
              try with_reducible rfl
            try simp only [Act.put, List.getElem_toArray, List.getElem_cons_succ, List.getElem_cons_zero, List.setIfInBounds_toArray, List.set_cons_zero, List.set_cons_succ]
            refine AnyBut.takeS (i := 11) (v := ?v203404055) rfl (by kernel_rfl) (Nat.le_of_eq (by kernel_rfl)) (by kernel_rfl) (by kernel_rfl) (fun _ _ _ h => h) (HS18.out) (Or.inl ⟨by kernel_rfl, ?hy203404055⟩) ?r203404055
            case hy203404055 =>
              intro w hSw
              try dsimp only at hSw
              go_simp
              try with_reducible rfl
            try simp only [Act.put, List.getElem_toArray, List.getElem_cons_succ, List.getElem_cons_zero, List.setIfInBounds_toArray, List.set_cons_zero, List.set_cons_succ]
            refine AnyBut.takeS (i := 13) (v := ?v203504055) rfl (by kernel_rfl) (Nat.le_of_eq (by kernel_rfl)) (by kernel_rfl) (by kernel_rfl) (fun _ _ _ h => h) (HS18.out) (Or.inl ⟨by kernel_rfl, ?hy203504055⟩) ?r203504055
            case hy203504055 =>
              intro w hSw
              try dsimp only at hSw
              go_simp
              try with_reducible rfl
            try simp only [Act.put, List.getElem_toArray, List.getElem_cons_succ, List.getElem_cons_zero, List.setIfInBounds_toArray, List.set_cons_zero, List.set_cons_succ]
            refine AnyBut.takeS (i := 14) (v := ?v203604055) rfl (by kernel_rfl) (Nat.le_of_eq (by kernel_rfl)) (by kernel_rfl) (by kernel_rfl) (fun _ _ _ h => h) (HS18.out) (Or.inl ⟨by kernel_rfl, ?hy203604055⟩) ?r203604055
            case hy203604055 =>
              intro w hSw
              try dsimp only at hSw
              go_simp
              try with_reducible rfl
            try simp only [Act.put, List.getElem_toArray, List.getElem_cons_succ, List.getElem_cons_zero, List.setIfInBounds_toArray, List.set_cons_zero, List.set_cons_succ]
            refine AnyBut.takeS (i := 15) (v := ?v203704055) rfl (by kernel_rfl) (Nat.le_of_eq (by kernel_rfl)) (by kernel_rfl) (by kernel_rfl) (fun _ _ _ h => h) (HS18.out) (Or.inl ⟨by kernel_rfl, ?hy203704055⟩) ?r203704055
            case hy203704055 =>
              intro w hSw
              try dsimp only at hSw
              go_simp
              try with_reducible rfl
            try simp only [Act.put, List.getElem_toArray, List.getElem_cons_succ, List.getElem_cons_zero, List.setIfInBounds_toArray, List.set_cons_zero, List.set_cons_succ]
            refine AnyBut.takeS (i := 16) (v := ?v203804055) rfl (by kernel_rfl) (Nat.le_of_eq (by kernel_rfl)) (by kernel_rfl) (by kernel_rfl) (fun _ _ _ h => h) (HS18.out) (Or.inl ⟨by kernel_rfl, ?hy203804055⟩) ?r203804055
            case hy203804055 =>
              intro w hSw
              try dsimp only at hSw
              go_simp
              try with_reducible rfl
            try simp only [Act.put, List.getElem_toArray, List.getElem_cons_succ, List.getElem_cons_zero, List.setIfInBounds_toArray, List.set_cons_zero, List.set_cons_succ]
            refine AnyBut.one (i := 12) (by kernel_rfl) rfl (fun K hK => ?_)
            go_simp
            go_wp2_with fail
            refine HAT.out.mono ?_
            rintro e w' ⟨rfl, rfl⟩
            go_wp2
            refine hK.out _ _ (HS18.out) ?_
            clear hK K
            try simp only [Act.put, List.getElem_toArray, List.getElem_cons_succ, List.getElem_cons_zero, List.setIfInBounds_toArray, List.set_cons_zero, List.set_cons_succ]
            refine AnyBut.takeS (i := 17) (v := ?v203904055) rfl (by kernel_rfl) (Nat.le_of_eq (by kernel_rfl)) (by kernel_rfl) (by kernel_rfl) (fun _ _ _ h => h) (HS18.out) (Or.inl ⟨by kernel_rfl, ?hy203904055⟩) ?r203904055
            case hy203904055 =>
              intro w hSw
              try dsimp only at hSw
              go_simp
              try with_reducible rfl
            try simp only [Act.put, List.getElem_toArray, List.getElem_cons_succ, List.getElem_cons_zero, List.setIfInBounds_toArray, List.set_cons_zero, List.set_cons_succ]
            refine AnyBut.takeS (i := 18) (v := ?v204004055) rfl (by kernel_rfl) (Nat.le_of_eq (by kernel_rfl)) (by kernel_rfl) (by kernel_rfl) (fun _ _ _ h => h) (HS18.out) (Or.inl ⟨by kernel_rfl, ?hy204004055⟩) ?r204004055
            case hy204004055 =>
              intro w hSw
              try dsimp only at hSw
              go_simp
              try with_reducible rfl
            try simp only [Act.put, List.getElem_toArray, List.getElem_cons_succ, List.getElem_cons_zero, List.setIfInBounds_toArray, List.set_cons_zero, List.set_cons_succ]
            refine AnyBut.done (by kernel_rfl) ?_
            go_wp2_with fail
            refine (HGN.out _ X11.out).mono ?_
            intro e w12 hx12
            have K12 := Lib.hid hx12.2.2.2
            obtain ⟨rfl, hq12⟩ := X11.out.no hx12
            have X12 := Lib.hid hq12
            clear hq12
            have N12 := Lib.hid (N11.out.same K12.out (fun e => by rcases e with e | e; exact boxT N11.out X11.out.rd.rd.box (by decide) e; exact boxT N11.out X11.out.rd.row (by decide) e))
            clear hx12
            go_wp2
            refine AnyBut.start (S := fun w' => w'.cell? ⟨gq, 5, none⟩ = some (.int .i64 (E : Int)) ∧ w'.cell? ⟨sq, 0, none⟩ = some (.slice sa m sc)) (k := 12) (by kernel_rfl) ?_
            obtain ⟨w13, hw13⟩ : ∃ w', w' = w12.drew := ⟨_, rfl⟩
            have k13 : Kept (fun _ => False) w12 w13 := by rw [hw13]; exact (Kept.refl _ _).drew
            rw [← hw13]
            clear hw13
            have X13 := Lib.hid (X12.out.on k13)
            have N13 := Lib.hid (N12.out.same k13 (fun x => x))
            have HS22 := Lib.hid (And.intro N13.out.c.2.2.2.2.2 (HSC.out _ _ _ _ _ _ X13.out).1)
            have hln := X13.out.rd.row
            rw [← HMM.out] at hln
            have HLN := Lib.hid (xrowLen_any rx m _ _ _ w13 hln)
            clear hln k13
            refine AnyBut.takeS (i := 0) (v := ?v204104055) rfl (by kernel_rfl) (Nat.le_of_eq (by kernel_rfl)) (by kernel_rfl) (by kernel_rfl) (fun _ _ _ h => h) (HS22.out) (Or.inl ⟨by kernel_rfl, ?hy204104055⟩) ?r204104055
            case hy204104055 =>
              intro w hSw
              try dsimp only at hSw
              go_simp
              try with_reducible rfl
            try simp only [Act.put, List.getElem_toArray, List.getElem_cons_zero, List.setIfInBounds_toArray, List.set_cons_zero, List.set_cons_succ]
            refine AnyBut.takeS (i := 1) (v := ?v204204055) rfl (by kernel_rfl) (Nat.le_of_eq (by kernel_rfl)) (by kernel_rfl) (by kernel_rfl) (fun _ _ _ h => h) (HS22.out) (Or.inl ⟨by kernel_rfl, ?hy204204055⟩) ?r204204055
            case hy204204055 =>
              intro w hSw
              try dsimp only at hSw
              go_simp
              try with_reducible rfl
            try simp only [Act.put, List.getElem_toArray, List.getElem_cons_succ, List.getElem_cons_zero, List.setIfInBounds_toArray, List.set_cons_zero, List.set_cons_succ]
            refine AnyBut.takeS (i := 2) (v := ?v204304055) rfl (by kernel_rfl) (Nat.le_of_eq (by kernel_rfl)) (by kernel_rfl) (by kernel_rfl) (fun _ _ _ h => h) (HS22.out) (Or.inl ⟨by kernel_rfl, ?hy204304055⟩) ?r204304055
            case hy204304055 =>
              intro w hSw
              try dsimp only at hSw
              go_simp
              try with_reducible rfl
            try simp only [Act.put, List.getElem_toArray, List.getElem_cons_succ, List.getElem_cons_zero, List.setIfInBounds_toArray, List.set_cons_zero, List.set_cons_succ]
            refine AnyBut.takeS (i := 3) (v := ?v204404055) rfl (by kernel_rfl) (Nat.le_of_eq (by kernel_rfl)) (by kernel_rfl) (by kernel_rfl) (fun _ _ _ h => h) (HS22.out) (Or.inl ⟨by kernel_rfl, ?hy204404055⟩) ?r204404055
            case hy204404055 =>
              intro w hSw
              try dsimp only at hSw
              go_simp
              try with_reducible rfl
            try simp only [Act.put, List.getElem_toArray, List.getElem_cons_succ, List.getElem_cons_zero, List.setIfInBounds_toArray, List.set_cons_zero, List.set_cons_succ]
            refine AnyBut.takeS (i := 4) (v := ?v204504055) rfl (by kernel_rfl) (Nat.le_of_eq (by kernel_rfl)) (by kernel_rfl) (by kernel_rfl) (fun _ _ _ h => h) (HS22.out) (Or.inl ⟨by kernel_rfl, ?hy204504055⟩) ?r204504055
            case hy204504055 =>
              intro w hSw
              try dsimp only at hSw
              go_simp
              try with_reducible rfl
            try simp only [Act.put, List.getElem_toArray, List.getElem_cons_succ, List.getElem_cons_zero, List.setIfInBounds_toArray, List.set_cons_zero, List.set_cons_succ]
            refine AnyBut.takeS (i := 5) (v := ?v204604055) rfl (by kernel_rfl) (Nat.le_of_eq (by kernel_rfl)) (by kernel_rfl) (by kernel_rfl) (fun _ _ _ h => h) (HS22.out) (Or.inl ⟨by kernel_rfl, ?hy204604055⟩) ?r204604055
            case hy204604055 =>
              intro w hSw
              try dsimp only at hSw
              go_simp
              try with_reducible rfl
            try simp only [Act.put, List.getElem_toArray, List.getElem_cons_succ, List.getElem_cons_zero, List.setIfInBounds_toArray, List.set_cons_zero, List.set_cons_succ]
            refine AnyBut.takeS (i := 7) (v := ?v204704055) rfl (by kernel_rfl) (Nat.le_of_eq (by kernel_rfl)) (by kernel_rfl) (by kernel_rfl) (fun _ _ _ h => h) (HS22.out) (Or.inl ⟨by kernel_rfl, ?hy204704055⟩) ?r204704055
            case hy204704055 =>
              intro w hSw
              try dsimp only at hSw
              go_simp
              try with_reducible rfl
            try simp only [Act.put, List.getElem_toArray, List.getElem_cons_succ, List.getElem_cons_zero, List.setIfInBounds_toArray, List.set_cons_zero, List.set_cons_succ]
            refine AnyBut.takeS (i := 8) (v := ?v204804055) rfl (by kernel_rfl) (Nat.le_of_eq (by kernel_rfl)) (by kernel_rfl) (by kernel_rfl) (fun _ _ _ h => h) (HS22.out) (Or.inl ⟨by kernel_rfl, ?hy204804055⟩) ?r204804055
            case hy204804055 =>
              intro w hSw
              try dsimp only at hSw
              go_simp
              try with_reducible rfl
            try simp only [Act.put, List.getElem_toArray, List.getElem_cons_succ, List.getElem_cons_zero, List.setIfInBounds_toArray, List.set_cons_zero, List.set_cons_succ]
            refine AnyBut.takeS (i := 9) (v := ?v204904055) rfl (by kernel_rfl) (Nat.le_of_eq (by kernel_rfl)) (by kernel_rfl) (by kernel_rfl) (fun _ _ _ h => h) (HS22.out) (Or.inl ⟨by kernel_rfl, ?hy204904055⟩) ?r204904055
            case hy204904055 =>
              intro w hSw
              try dsimp only at hSw
              go_simp
              try with_reducible rfl
            try simp only [Act.put, List.getElem_toArray, List.getElem_cons_succ, List.getElem_cons_zero, List.setIfInBounds_toArray, List.set_cons_zero, List.set_cons_succ]
            refine AnyBut.one (i := 6) (by kernel_rfl) rfl (fun K hK => ?_)
            go_simp
            go_wp2_with fail
            refine HLN.out.mono ?_
            rintro e w' ⟨rfl, rfl⟩
            go_wp2
            refine hK.out _ _ (HS22.out) ?_
            clear hK K
            try simp only [Act.put, List.getElem_toArray, List.getElem_cons_succ, List.getElem_cons_zero, List.setIfInBounds_toArray, List.set_cons_zero, List.set_cons_succ]
            refine AnyBut.takeS (i := 10) (v := ?v205004055) rfl (by kernel_rfl) (Nat.le_of_eq (by kernel_rfl)) (by kernel_rfl) (by kernel_rfl) (fun _ _ _ h => h) (HS22.out) (Or.inl ⟨by kernel_rfl, ?hy205004055⟩) ?r205004055
            case hy205004055 =>
              intro w hSw
              try dsimp only at hSw
              go_simp
              try with_reducible rfl
            try simp only [Act.put, List.getElem_toArray, List.getElem_cons_succ, List.getElem_cons_zero, List.setIfInBounds_toArray, List.set_cons_zero, List.set_cons_succ]
            refine AnyBut.takeS (i := 11) (v := ?v205104055) rfl (by kernel_rfl) (Nat.le_of_eq (by kernel_rfl)) (by kernel_rfl) (by kernel_rfl) (fun _ _ _ h => h) (HS22.out) (Or.inl ⟨by kernel_rfl, ?hy205104055⟩) ?r205104055
            case hy205104055 =>
              intro w hSw
              try dsimp only at hSw
              go_simp
              try with_reducible rfl
            try simp only [Act.put, List.getElem_toArray, List.getElem_cons_succ, List.getElem_cons_zero, List.setIfInBounds_toArray, List.set_cons_zero, List.set_cons_succ]
            refine AnyBut.done (by kernel_rfl) ?_
            go_wp2
            go_meet
            case rel => exact ⟨t, A, _, _, by have := HMM.out; omega, rfl, X13.out, HEQA.out⟩
      · have hdi : ¬ (m : Int) < (n : Int) := by omega
        have hdib : decide (m < n) = false := decide_eq_false hd
        rw [← hm]
        clear hm hea htl halt
        go_wp2
        go_meet
        case rel => exact ⟨t, A, _, _, by have := HMM.out; have := HNS.out; omega, rfl, by have := HI.out; exact HMM.out ▸ this, HEQA.out⟩
  case rest =>
    obtain ⟨t, A, v, sv, hl60, rfl, htx, hea, htl, halt⟩ := hcut
    have HI := Lib.hid htx
    have hlen : (bs.take t).length = t := by rw [List.length_take]; omega
    have hbw : BwAt wc W.heap.size pw v (bs.take t) := by rw [← hea]; exact htx.wx.bw
    have HL1 := Lib.hid fun w' (h : Kept (fun _ => False) wc w') => bwlen_any _ _ _ _ w' (hbw.keptF h)
    rw [hlen] at HL1
    have hbl9 : t ≤ 640 := by have := HBL.out; have := HNN.out; omega
    have HB1 := Lib.hid fun w' (h : Kept (fun _ => False) wc w') => bytesStr _ w' _ _ _ (hbw.keptF h) (by rw [hlen]; omega)
    have hsl := (htx.ml.at_).takeH (k := t) (by have := HBL.out; omega)
    have hit : (ints bs).take t = ints (bs.take t) := by unfold ints; rw [List.map_take]
    rw [hit] at hsl
    have HR1 := Lib.hid fun w' (h : Kept (fun _ => False) wc w') => refBytesStrX _ (bs.take t) w' (hsl.kept h (fun _ _ x => x)) (by rw [hlen]; omega)
    obtain ⟨S1, hS1⟩ : ∃ S, S = strN (packB (bs.take t)) := ⟨_, rfl⟩
    rw [← hS1] at HB1 HR1
    have htc : t ≤ lc := by have := HBL.out; omega
    have s1 := fun w => run_cutH (P := Tryd.prog) Tryd.underlying26 hiI hzI1 lo Nb lc t htc w
    have s2 := fun w => run_cutHAt (P := Tryd.prog) Tryd.underlying26 hiI hzI1 lo Nb lc t htc w
    have kd : Kept (fun _ => False) wc wc.drew := (Kept.refl _ wc).drew
    have K9 := Lib.hid htx.rd.kept
    have ett : ((t : Int) == (t : Int)) = true := by simp
    clear hea htl halt htx hbw hlen hsl hit hS1 htc hbl9 hl60 HTX0
    go_wp2
    go_region_with (first
      | (go_at_call 16; refine (HL1.out _ (by assumption)).mono ?_; rintro e w' ⟨rfl, rfl⟩)
      | (go_at_call 18; refine (HR1.out _ (by assumption)).mono ?_; rintro e w7 ⟨vc, rfl, hcw, k7⟩; have kc7 := Kept.trans (show Kept (fun _ => False) wc _ from by assumption) k7; have k77 := Kept.refl (fun _ => False) w7)
      | (go_at_call 17; refine (HB1.out _ (by assumption)).mono ?_; rintro e w6 ⟨vb, rfl, hcv, k6⟩; have kc := Kept.trans (show Kept (fun _ => False) wc _ from by assumption) k6; have k66 := Kept.refl (fun _ => False) w6)
      | fail)
    all_goals
      go_wp2
      go_ret
      exact ⟨rfl, K9.out.trans (by assumption)⟩

set_option maxHeartbeats 1000000 in
theorem xorTakes_walk (ao : Option Addr) (la ca : Nat) (z0 : List Int) (n : Int) (W : World) (h0 : IsRow .u8 W ao la ca z0) (_hn : -9223372036854775808 ≤ n ∧ n ≤ 9223372036854775807) (HT : BruTab W) :
    Calls Tryd.prog 8 #[.slice ao la ca, .int .i64 n] W fun e w' => e = .returned (.bool true) ∧ Kept (fun _ => False) W w' := by
  obtain ⟨l, rfl, hx, hv⟩ := h0.slAtN 256 (fun x h => by have := bd_u8 h; omega)
  by_cases hl : l.length ≤ 80 ∧ 0 ≤ n ∧ n ≤ 60
  · obtain ⟨h1, h2, h3⟩ := hl
    obtain ⟨m, rfl⟩ : ∃ m : Nat, n = m := ⟨n.toNat, by omega⟩
    exact xorTakes_walk0 ao ca l m W hv h1 hx (by omega) HT
  · have HA := Lib.hid (awake7_any W HT)
    have hq : (80 : Int) < (l.length : Int) ∨ ((¬ (80 : Int) < (l.length : Int)) ∧ n < 0) ∨ ((¬ (80 : Int) < (l.length : Int)) ∧ (¬ n < 0) ∧ 60 < n) := by omega
    clear h0 hx hv HT hl
    rcases hq with q1 | ⟨q1, q2⟩ | ⟨q1, q2, q3⟩
    all_goals
      go_enter Tryd.func8, Tryd.ntmps8
      go_wp2_with fail
      refine HA.out.mono ?_
      rintro e w1 ⟨rfl, K1⟩
      go_wp2
      go_ret
      exact ⟨rfl, K1⟩
end Go.Proofs.YtaagjedkojlbpaaDoor
