/- Layer 2: the walk of 'PackReads'. -/
import Derived.Test.YtanhdjdojeoodaaQ9
import Derived.Test.YtanhdjdojeoodaaQ11
import Derived.Deep.RegionWith
import Derived.Deep.CutBlock
namespace Go.Proofs.Ytanhdjdojeoodaa
open Go.RowKit
attribute [local go_sem ↓] Go.wp_at_zero Go.wp_at_succ

set_option maxHeartbeats 400000 in
theorem refZag_any (v : Int) (h0 : 0 ≤ v) (h1 : v ≤ 18446744073709551615) (w : World) :
    Calls Try.prog 54 #[.int .u64 v] w fun e w' => e = .returned (.int .i64 (zagI v)) ∧ w = w' := by
  have e1 : IntKind.i64.wrap (v / 2) = v / 2 := IntWalk.i64_in _ ⟨by omega, by omega⟩
  have e2 : IntKind.i64.wrap (-1 - v / 2) = -1 - v / 2 := IntWalk.i64_in _ ⟨by omega, by omega⟩
  by_cases h : v % 2 = 0
  · have hz : zagI v = v / 2 := if_pos h
    go_enter Try.func54, Try.ntmps54
    go_wp2
    go_ret
    exact ⟨ret_int hz.symm, rfl⟩
  · have hz : zagI v = -1 - v / 2 := by unfold zagI; rw [if_neg h]; omega
    have q : (v % 2 == 0) = false := by simp [h]
    go_enter Try.func54, Try.ntmps54
    go_wp2
    go_ret
    exact ⟨ret_int hz.symm, rfl⟩

/-- What holds while the own bytes are turned. -/
structure RX (W w : World) (rp : Nat) (rv : Value) (l : List Int) (vb : Value) : Prop where
  rd : RdAt 88 5 w W.heap.size rp rv l 0 0
  row : ∃ cs, w.ownsRow W.heap.size 5 1 vb l.length (u8s cs)
  apart : ∀ k, vb.ownBlock = some k → rv.ownBlock ≠ some k
  kept : Kept (fun _ => False) W w
theorem RX.turned {W w : World} {rp g cap j : Nat} {rv : Value} {l : List Int} {u : Int} (h : RX W w rp rv l (.slice (some ⟨g, 0, none⟩) l.length cap)) : RX W (w.setCell ⟨g, j, none⟩ (.int .u8 u)) rp rv l (.slice (some ⟨g, 0, none⟩) l.length cap) := by
  obtain ⟨cs, ho⟩ := h.row
  have hk : Kept (fun k => k = g) w (w.setCell ⟨g, j, none⟩ (.int .u8 u)) := (Kept.refl (fun k => k = g) w).setCell (fun _ => rfl) _
  have hgr : g ≠ rp := fun e => own_ne_box ho h.rd.box (by decide) (by rw [e]; rfl)
  refine ⟨h.rd.kept hk (fun e => hgr e.symm) (fun k e hS => h.apart g rfl (hS ▸ e)), ⟨cs.set j u, ?_⟩, h.apart, wafter h.kept hk (fun k e => by subst e; exact (ownsRow_lt ho rfl).2)⟩
  have := (ho.stored j (.int .u8 u)).1
  unfold u8s at this ⊢
  rw [List.map_set]; exact this

/-- What holds while words are read. -/
structure RE (W w : World) (rp : Nat) (rv : Value) (l : List Int) (t : Nat) (e : Int) : Prop where
  rd : RdAt 88 5 w W.heap.size rp rv l t e
  kept : Kept (fun _ => False) W w
theorem RE.keptF {W w w1 : World} {rp : Nat} {rv : Value} {l : List Int} {t : Nat} {e : Int} (h : RE W w rp rv l t e) (hk : Kept (fun _ => False) w w1) : RE W w1 rp rv l t e :=
  ⟨h.rd.kept hk (fun x => x) (fun _ _ x => x), h.kept.trans hk⟩
theorem RE.took {W w w1 : World} {rp : Nat} {rv : Value} {l : List Int} {t t1 : Nat} {e e1 : Int} (h : RE W w rp rv l t e) (hr : RdAt 88 5 w1 W.heap.size rp rv l t1 e1) (hk : Kept (fun k => k = rp) w w1) : RE W w1 rp rv l t1 e1 :=
  ⟨hr, wafter h.kept hk (fun k e => by subst e; exact h.rd.base)⟩
/-- Two boxes of the round: the word, and what the document answers. -/
structure Boxes (w : World) (pb pg : Nat) (r : WRec) (gv gn ge : Int) : Prop where
  word : w.heap[pb]? = some (.cells #[.int .i64 r.k, .int .i64 r.n, .int .u64 r.v, .string r.s] 58 (0, 0))
  got : w.heap[pg]? = some (.cells #[.int .u64 gv, .int .i64 gn, .int .i64 ge] 70 (0, 0))
theorem Boxes.kept {S : Nat → Prop} {w w1 : World} {pb pg : Nat} {r : WRec} {gv gn ge : Int} (h : Boxes w pb pg r gv gn ge) (hk : Kept S w w1) (h1 : ¬ S pb) (h2 : ¬ S pg) : Boxes w1 pb pg r gv gn ge :=
  ⟨hk.same h.word h1, hk.same h.got h2⟩

theorem RE.keptB {W w : World} {rp : Nat} {rv : Value} {l : List Int} {t : Nat} {e : Int} (h : RE W w rp rv l t e) : Kept (fun k => W.heap.size ≤ k) W w := h.kept.mono (fun _ _ x => x.elim)
theorem SliceAt.far {W w : World} {v : Value} {ao : Option Addr} {n c : Nat} {xs : List Value} (h : SliceAt W v ao n c xs) (hk : Kept (fun k => W.heap.size ≤ k) W w) : SliceAt w v ao n c xs :=
  ⟨h.val, h.len, h.none, fun a ha j u hu => by
    have h1 := h.cells a ha j u hu
    exact hk.cell h1 (fun hS => by have := World.block_lt_of_cell? W _ h1; omega)⟩
theorem RE.boxed {W w w1 : World} {rp pg : Nat} {rv : Value} {l : List Int} {t : Nat} {e : Int} {cs : Array Value} (h : RE W w rp rv l t e) (hb : w.heap[pg]? = some (.cells cs 70 (0, 0))) (hk : Kept (fun k => k = pg) w w1) (hpg : W.heap.size ≤ pg) (hgr : pg ≠ rp) : RE W w1 rp rv l t e :=
  ⟨h.rd.kept hk (fun e => hgr e.symm) (fun k e hS => own_ne_box h.rd.owns hb (by decide) (hS ▸ e)), wafter h.kept hk (fun k e => by subst e; exact hpg)⟩
theorem Boxes.three {W w : World} {pb pg rp t : Nat} {r : WRec} {rv : Value} {l : List Int} {e a b c gv gn ge : Int} (h : Boxes w pb pg r a b c) (hne : pb ≠ pg) (hr : RE W w rp rv l t e) (hpg : W.heap.size ≤ pg) (hgr : pg ≠ rp) :
    Boxes (((w.setCell ⟨pg, 0, none⟩ (.int .u64 gv)).setCell ⟨pg, 1, none⟩ (.int .i64 gn)).setCell ⟨pg, 2, none⟩ (.int .i64 ge)) pb pg r gv gn ge ∧ RE W (((w.setCell ⟨pg, 0, none⟩ (.int .u64 gv)).setCell ⟨pg, 1, none⟩ (.int .i64 gn)).setCell ⟨pg, 2, none⟩ (.int .i64 ge)) rp rv l t e := by
  have hk : Kept (fun k => k = pg) w (((w.setCell ⟨pg, 0, none⟩ (.int .u64 gv)).setCell ⟨pg, 1, none⟩ (.int .i64 gn)).setCell ⟨pg, 2, none⟩ (.int .i64 ge)) := (((Kept.refl (fun k => k = pg) w).setCell (p := ⟨pg, 0, none⟩) (fun _ => rfl) _).setCell (p := ⟨pg, 1, none⟩) (fun _ => rfl) _).setCell (p := ⟨pg, 2, none⟩) (fun _ => rfl) _
  exact ⟨⟨hk.same h.word hne, by have e := h.got; simp [World.setCell, Array.getElem?_modify, e]⟩, hr.boxed h.got hk hpg hgr⟩
theorem Boxes.n1 {W w : World} {pb pg rp t : Nat} {r : WRec} {rv : Value} {l : List Int} {e a b c gn' : Int} (h : Boxes w pb pg r a b c) (hne : pb ≠ pg) (hr : RE W w rp rv l t e) (hpg : W.heap.size ≤ pg) (hgr : pg ≠ rp) :
    Boxes (w.setCell ⟨pg, 1, none⟩ (.int .i64 gn')) pb pg r a gn' c ∧ RE W (w.setCell ⟨pg, 1, none⟩ (.int .i64 gn')) rp rv l t e := by
  have hk : Kept (fun k => k = pg) w (w.setCell ⟨pg, 1, none⟩ (.int .i64 gn')) := (Kept.refl (fun k => k = pg) w).setCell (p := ⟨pg, 1, none⟩) (fun _ => rfl) _
  exact ⟨⟨hk.same h.word hne, by have e := h.got; simp [World.setCell, Array.getElem?_modify, e]⟩, hr.boxed h.got hk hpg hgr⟩
theorem Boxes.n2 {W w : World} {pb pg rp t : Nat} {r : WRec} {rv : Value} {l : List Int} {e a b c ge' : Int} (h : Boxes w pb pg r a b c) (hne : pb ≠ pg) (hr : RE W w rp rv l t e) (hpg : W.heap.size ≤ pg) (hgr : pg ≠ rp) :
    Boxes (w.setCell ⟨pg, 2, none⟩ (.int .i64 ge')) pb pg r a b ge' ∧ RE W (w.setCell ⟨pg, 2, none⟩ (.int .i64 ge')) rp rv l t e := by
  have hk : Kept (fun k => k = pg) w (w.setCell ⟨pg, 2, none⟩ (.int .i64 ge')) := (Kept.refl (fun k => k = pg) w).setCell (p := ⟨pg, 2, none⟩) (fun _ => rfl) _
  exact ⟨⟨hk.same h.word hne, by have e := h.got; simp [World.setCell, Array.getElem?_modify, e]⟩, hr.boxed h.got hk hpg hgr⟩

set_option maxHeartbeats 40000000 in
set_option maxRecDepth 100000 in
theorem packReads_walk0 (ab : Option Addr) (cb : Nat) (l : List Int) (ao : Option Addr) (ca : Nat) (rs : List WRec) (W : World) (hv : SliceAt W (.slice ab l.length cb) ab l.length cb (u8s l)) (hby : ∀ x ∈ l, 0 ≤ x ∧ x < 256) (hll : l.length ≤ 300) (hcap : l.length ≤ cb) (hr : WordsAt W ao rs) (hfew : fewW rs = true) :
    Calls Try.prog 9 #[.slice ab l.length cb, .slice ao rs.length ca] W fun e w' => e = .returned (.bool true) ∧ Kept (fun _ => False) W w' := by
  obtain ⟨i0, hi, hz0, hz1, hz2⟩ := info_parts Try.info5
  have HR := Lib.hid hr
  have HV := Lib.hid hv
  have HBY := Lib.hid hby
  have HA := Lib.hid (awake2_any W)
  have hl : rs.length ≤ 60 ∧ ∀ r ∈ rs, r.s.size ≤ 300 := by
    unfold fewW at hfew
    simpa using hfew
  have HFEW := Lib.hid hfew
  have hl1 := hl.1
  obtain ⟨L, hL⟩ : ∃ L, L = l.length := ⟨_, rfl⟩
  have HLL := Lib.hid hL
  rw [← hL] at hll hcap HV ⊢
  have hq1 : ¬ (300 : Int) < (L : Int) := by omega
  clear hr hl hfew hv hby hL
  go_enter Try.func9, Try.ntmps9
  go_wp2_with fail
  refine HA.out.mono ?_
  rintro e w1 ⟨rfl, K1⟩
  have B1 := K1.size
  go_wp2_with fail
  refine (some2_any ao ca rs w1 (HR.out.kept K1) (by omega)).mono ?_
  rw [HFEW.out]
  rintro e w' ⟨rfl, rfl⟩
  have hsrc := ((HV.out.kept K1 (fun _ _ x => x)).alloc (.cells #[] 5)).src (P := Try.prog) Try.underlying29 (u8s_one l)
  have hown0 : (w1.alloc (.cells #[] 5)).ownsRow W.heap.size 5 1 (.slice (some ⟨w1.heap.size, 0, none⟩) 0 0) 0 [] :=
    ⟨rfl, .inr ⟨w1.heap.size, 0, #[], rfl, B1, heap_alloc_new w1 _, Nat.le_refl _, by unfold maxLen; omega, rfl, rfl⟩⟩
  go_wp2_with (at_builtin; refine wpList_append_src _ rfl (.tmp 25) (.tmp 26) 29 29 rfl W.heap.size 5 i0 (.int .u8 0) 1 1 Try.underlying29 hi hz0 hz1 hz2 rfl (.slice (some ⟨w1.heap.size, 0, none⟩) 0 0) 0 [] rfl hown0 (.slice ab L cb) L (u8s l) rfl hsrc ?c1 ?c2 ?c3 ?_)
  case c1 => unfold maxLen; omega
  case c2 => omega
  case c3 => simp; omega
  intro v2 w2 hown hg _ hat
  have K2 : Kept (fun _ => False) w1 w2 := ((Kept.refl _ w1).alloc _).grown hg (fun k e hlt => by simp [Value.ownBlock] at e; omega)
  have ho2 : w2.ownsRow W.heap.size 5 1 v2 l.length (u8s l) := by rw [← HLL.out]; simpa using hown
  obtain ⟨aow, cow, hsl, hob⟩ := SliceAt.ofOwn ho2
  have HNR := Lib.hid (newReader_any v2 aow cow l w2 hsl (by have := HLL.out; omega) HBY.out)
  obtain rfl := hsl.val
  have HO2 := Lib.hid ho2
  clear hown hg hat hsrc hown0 hsl hob ho2
  go_wp2_with fail
  refine HNR.out.mono ?_
  rintro e w4 ⟨rp, rv, rfl, HR4, K4⟩
  have Z4 : RX W w4 rp rv l (.slice aow l.length cow) := ⟨HR4.less (Nat.le_trans B1 K2.size), ⟨_, K4.owns HO2.out (fun _ _ x => x)⟩, fun k e e2 => by
    have h1 := (ownsRow_lt HO2.out e).1
    have h2 := (ownsRow_lt HR4.owns e2).2
    omega, (K1.trans K2).trans K4⟩
  rw [← HLL.out] at Z4 ⊢
  clear HNR HR4 K4 K2 K1 B1 HO2
  go_wp2
  go_loopg [7] L (fun g s7 wr => ∃ j : Nat, j ≤ L ∧ g = L - j ∧ s7 = .int .i64 j ∧ RX W wr rp rv l (.slice aow L cow))
  case atStart => exact ⟨0, Nat.zero_le _, rfl, rfl, Z4⟩
  case round =>
    obtain ⟨j, hj, rfl, rfl, Z⟩ := hrel
    clear Z4
    by_cases hdj : j < L
    · obtain ⟨cs, ho⟩ := Z.row
      rw [← HLL.out] at ho
      obtain ⟨g, cap, he, _, _⟩ := ho.form (by omega)
      injection he with he1 he2 he3
      subst he1; subst he3
      have hxl : cs.length = L := by have := ho.1; simpa [u8s] using this
      have hcell := ho.cellAt j (by omega)
      have hgt : (u8s cs)[j]? = some (.int .u8 (cs[j]'(by omega))) := by unfold u8s; rw [List.getElem?_map, List.getElem?_eq_getElem (by omega)]; rfl
      rw [hgt] at hcell
      obtain ⟨y, hy⟩ : ∃ y, y = cs[j]'(by omega) := ⟨_, rfl⟩
      rw [← hy] at hcell
      have hfr := ho.frozenAt j
      have Z2 : Hid (∀ u, RX W (wr.setCell ⟨g, j, none⟩ (.int .u8 u)) rp rv l (.slice (some ⟨g, 0, none⟩) L cow)) := by
        show ∀ u, _
        have Z' := Z
        rw [HLL.out] at Z' ⊢
        exact fun u => Z'.turned
      obtain ⟨Y, hY⟩ : ∃ Y, Y = bits .xor .u8 y 255 := ⟨_, rfl⟩
      have hY2 : bits .xor .u8 y 255 = Y := hY.symm
      have hj1 : (j : Int) < (L : Int) := by omega
      have hj0 : (0 : Int) ≤ (j : Int) := by omega
      have HDJ := Lib.hid hdj
      clear Z hy hxl ho hdj hgt hY
      go_wp2
      go_roundg (L - (j + 1))
      case measure => have := HDJ.out; omega
      case rel => exact ⟨j + 1, HDJ.out, rfl, by go_num, Z2.out _⟩
    · obtain rfl : j = L := by omega
      have R0 : RE W wr rp rv l 0 0 := ⟨Z.rd, Z.kept⟩
      have hT0 : (0 : Nat) ≤ j := Nat.zero_le _
      clear Z hdj hj
      go_wp2
      go_loopg [8, 9, 10] rs.length (fun g s8 s9 s10 wr => ∃ i : Nat, i ≤ rs.length ∧ g = rs.length - i ∧ s10 = .int .i64 i ∧ ∃ (t : Nat) (e : Int), s8 = .int .i64 t ∧ s9 = .int .i64 e ∧ t ≤ j ∧ RE W wr rp rv l t e)
      case atStart => exact ⟨0, Nat.zero_le _, rfl, rfl, 0, 0, rfl, rfl, hT0, R0⟩
      case round =>
        obtain ⟨i, hil, rfl, rfl, t, e, rfl, rfl, htl, R⟩ := hrel
        clear R0 hT0
        by_cases hd : i < rs.length
        · obtain ⟨g, o, rfl, hrec⟩ := HR.out (by omega)
          have hi0 := hrec i rs[i] (List.getElem?_eq_getElem hd)
          have hi' := hi0.kept R.kept
          obtain ⟨r, hrr⟩ : ∃ r, r = rs[i] := ⟨_, rfl⟩
          rw [← hrr] at hi'
          obtain ⟨k, n, x, s⟩ := r
          obtain ⟨ck, cn, cv, cs, hn, hx⟩ := hi'
          simp only at ck cn cv cs hn hx
          have hdi : (i : Int) < (rs.length : Int) := by omega
          have hdi0 : (0 : Int) ≤ (i : Int) := by omega
          have HD := Lib.hid hd
          have HRE := Lib.hid R
          obtain ⟨D, hD⟩ : ∃ D, D = docF ⟨k, n, x, s⟩ l t := ⟨_, rfl⟩
          have HDD := Lib.hid hD
          clear hrec hrr hi0 hd R hx hD
          go_upto_block 4 with fail
          obtain ⟨wg, hwg⟩ : ∃ wg, wg = (wr.alloc (.cells #[.int .i64 k, .int .i64 n, .int .u64 x, .string s] 58)).alloc (.cells #[.int .u64 0, .int .i64 0, .int .i64 0] 70) := ⟨_, rfl⟩
          obtain ⟨pg, hpg⟩ : ∃ pg, pg = wr.heap.size + 1 := ⟨_, rfl⟩
          obtain ⟨pb, hpb⟩ : ∃ pb, pb = wr.heap.size := ⟨_, rfl⟩
          have hkg : Kept (fun _ => False) wr wg := by rw [hwg]; exact ((Kept.refl _ wr).alloc _).alloc _
          have hsz : (wr.alloc (.cells #[.int .i64 k, .int .i64 n, .int .u64 x, .string s] 58)).heap.size = wr.heap.size + 1 := by simp
          have BX := Lib.hid (show Boxes wg pb pg ⟨k, n, x, s⟩ 0 0 0 from ⟨by
              rw [hwg, hpb]
              exact ((Kept.refl (fun _ => False) _).alloc _).same (heap_alloc_new wr _) (fun x => x), by
              rw [hwg, hpg, ← hsz]
              exact heap_alloc_new _ _⟩)
          have RG := Lib.hid (HRE.out.keptF hkg)
          have hpp : pb ≠ rp ∧ pg ≠ rp ∧ pb ≠ pg := by have := HRE.out.rd.lt; omega
          have HPG : Hid (W.heap.size ≤ pg) := by show _ ≤ _; have := HRE.out.kept.size; omega
          rw [← hpg, ← hpb, ← hwg]
          clear hwg hpg hpb hkg hsz ck cn cv cs HRE
          go_cut [13] (fun s13 wc => s13 = .string (strOfNums D.2.1) ∧ Boxes wc pb pg ⟨k, n, x, s⟩ D.1 D.2.2.1 D.2.2.2 ∧ RE W wc rp rv l t e)
          case first =>
            have HGN : Hid (∀ w', Kept (fun _ => False) wg w' → Calls Try.prog 47 #[.slice ab j cb, .int .i64 t] w' fun e w'' => e = .returned (Got (lookF l t)) ∧ Kept (fun _ => False) w' w'') := by
              show ∀ w', _ → _
              intro w' hk'
              have h1 := HV.out.kept (RG.out.kept.trans hk') (fun _ _ x => x)
              rw [HLL.out] at h1 ⊢
              exact getNum_any _ ab cb l t w' h1 HBY.out (by have := HLL.out; omega) (by have := HLL.out; omega)
            have HGF : Hid (∀ w', Kept (fun _ => False) wg w' → Calls Try.prog 52 #[.slice ab j cb, .int .i64 t] w' fun e w'' => e = .returned (Got (getFixF l t)) ∧ Kept (fun _ => False) w' w'') := by
              show ∀ w', _ → _
              intro w' hk'
              have h1 := HV.out.kept (RG.out.kept.trans hk') (fun _ _ x => x)
              rw [HLL.out] at h1 ⊢
              exact getFix_any _ ab cb l t w' h1 HBY.out (by have := HLL.out; omega) (by have := HLL.out; omega)
            have HVF : Hid (∀ w', Kept (fun k => W.heap.size ≤ k) W w' → SliceAt w' (.slice ab j cb) ab j cb (u8s l)) := by
              show ∀ w', _ → _
              exact fun w' hk' => HV.out.far hk'
            have b0 : wg.cell? ⟨pb, 0, none⟩ = some (.int .i64 k) := by rw [cell_of_row wg pb 0 _ _ _ BX.out.word]; rfl
            have b1 : wg.cell? ⟨pb, 1, none⟩ = some (.int .i64 n) := by rw [cell_of_row wg pb 1 _ _ _ BX.out.word]; rfl
            obtain ⟨hbr, hgr, hne⟩ := hpp
            have hne2 : pg ≠ pb := fun e => hne e.symm
            by_cases hk0 : k = 0
            · subst hk0
              as_aux_lemma =>
                have q1 : ((0 : Int) == 1) = false := rfl
                have q2 : ((0 : Int) == 2) = false := rfl
                have q3 : ((0 : Int) == 3) = false := rfl
                have q4 : ((0 : Int) == 4) = false := rfl
                have q5 : ((0 : Int) == 5) = false := rfl
                have hd : D = ((lookF l t).1, [], (lookF l t).2.1, (lookF l t).2.2) := by rw [HDD.out]; rfl
                obtain ⟨q, hq⟩ : ∃ q, q = lookF l t := ⟨_, rfl⟩
                rw [← hq] at hd HGN
                obtain ⟨gv, gn, ge⟩ := q
                have HC := Lib.hid (HGN.out wg (Kept.refl _ _))
                clear hq
                go_wp2_with fail
                refine HC.out.mono ?_
                rintro e' w5 ⟨rfl, k5⟩
                have B5 := BX.out.kept k5 (fun x => x) (fun x => x)
                have R5 := RG.out.keptF k5
                have g0 : w5.cell? ⟨pg, 0, none⟩ = some (.int .u64 0) := by rw [cell_of_row w5 pg 0 _ _ _ B5.got]; rfl
                have g1 : w5.cell? ⟨pg, 1, none⟩ = some (.int .i64 0) := by rw [cell_of_row w5 pg 1 _ _ _ B5.got]; rfl
                have g2 : w5.cell? ⟨pg, 2, none⟩ = some (.int .i64 0) := by rw [cell_of_row w5 pg 2 _ _ _ B5.got]; rfl
                have f0 : w5.frozen? ⟨pg, 0, none⟩ = false := by simp [World.frozen?, B5.got]
                have f1 : w5.frozen? ⟨pg, 1, none⟩ = false := by simp [World.frozen?, B5.got]
                have f2 : w5.frozen? ⟨pg, 2, none⟩ = false := by simp [World.frozen?, B5.got]
                have b0 : w5.cell? ⟨pb, 0, none⟩ = some (.int .i64 0) := by rw [cell_of_row w5 pb 0 _ _ _ B5.word]; rfl
                have b1 : w5.cell? ⟨pb, 1, none⟩ = some (.int .i64 n) := by rw [cell_of_row w5 pb 1 _ _ _ B5.word]; rfl
                have F3 := Lib.hid (Boxes.three (gv := gv) (gn := (gn : Int)) (ge := ge) B5 hne R5 HPG.out hgr)
                have HB5 := Lib.hid B5
                have HR5 := Lib.hid R5
                clear B5 R5 k5
                unfold Got
                go_wp2
                go_meet
                case rel => exact ⟨by rw [hd]; rfl, by rw [hd]; exact F3.out.1, F3.out.2⟩
            · skip
              by_cases hk1 : k = 1
              · subst hk1
                as_aux_lemma =>
                  have q0 : ((1 : Int) == 0) = false := rfl
                  have q2 : ((1 : Int) == 2) = false := rfl
                  have q3 : ((1 : Int) == 3) = false := rfl
                  have q4 : ((1 : Int) == 4) = false := rfl
                  have q5 : ((1 : Int) == 5) = false := rfl
                  have hd : D = ((lookF l t).1, [], (lookF l t).2.1, (lookF l t).2.2) := by rw [HDD.out]; rfl
                  obtain ⟨q, hq⟩ : ∃ q, q = lookF l t := ⟨_, rfl⟩
                  rw [← hq] at hd HGN
                  obtain ⟨gv, gn, ge⟩ := q
                  have HC := Lib.hid (HGN.out wg (Kept.refl _ _))
                  clear hq
                  go_wp2_with fail
                  refine HC.out.mono ?_
                  rintro e' w5 ⟨rfl, k5⟩
                  have B5 := BX.out.kept k5 (fun x => x) (fun x => x)
                  have R5 := RG.out.keptF k5
                  have g0 : w5.cell? ⟨pg, 0, none⟩ = some (.int .u64 0) := by rw [cell_of_row w5 pg 0 _ _ _ B5.got]; rfl
                  have g1 : w5.cell? ⟨pg, 1, none⟩ = some (.int .i64 0) := by rw [cell_of_row w5 pg 1 _ _ _ B5.got]; rfl
                  have g2 : w5.cell? ⟨pg, 2, none⟩ = some (.int .i64 0) := by rw [cell_of_row w5 pg 2 _ _ _ B5.got]; rfl
                  have f0 : w5.frozen? ⟨pg, 0, none⟩ = false := by simp [World.frozen?, B5.got]
                  have f1 : w5.frozen? ⟨pg, 1, none⟩ = false := by simp [World.frozen?, B5.got]
                  have f2 : w5.frozen? ⟨pg, 2, none⟩ = false := by simp [World.frozen?, B5.got]
                  have b0 : w5.cell? ⟨pb, 0, none⟩ = some (.int .i64 1) := by rw [cell_of_row w5 pb 0 _ _ _ B5.word]; rfl
                  have b1 : w5.cell? ⟨pb, 1, none⟩ = some (.int .i64 n) := by rw [cell_of_row w5 pb 1 _ _ _ B5.word]; rfl
                  have F3 := Lib.hid (Boxes.three (gv := gv) (gn := (gn : Int)) (ge := ge) B5 hne R5 HPG.out hgr)
                  have HB5 := Lib.hid B5
                  have HR5 := Lib.hid R5
                  clear B5 R5 k5
                  unfold Got
                  go_wp2
                  go_meet
                  case rel => exact ⟨by rw [hd]; rfl, by rw [hd]; exact F3.out.1, F3.out.2⟩
              · skip
                by_cases hk2 : k = 2
                · subst hk2
                  as_aux_lemma =>
                    have q0 : ((2 : Int) == 0) = false := rfl
                    have q1 : ((2 : Int) == 1) = false := rfl
                    have q3 : ((2 : Int) == 3) = false := rfl
                    have q4 : ((2 : Int) == 4) = false := rfl
                    have q5 : ((2 : Int) == 5) = false := rfl
                    have hd : D = ((getFixF l t).1, [], (getFixF l t).2.1, (getFixF l t).2.2) := by rw [HDD.out]; rfl
                    obtain ⟨q, hq⟩ : ∃ q, q = getFixF l t := ⟨_, rfl⟩
                    rw [← hq] at hd HGF
                    obtain ⟨gv, gn, ge⟩ := q
                    have HC := Lib.hid (HGF.out wg (Kept.refl _ _))
                    clear hq
                    go_wp2_with fail
                    refine HC.out.mono ?_
                    rintro e' w5 ⟨rfl, k5⟩
                    have B5 := BX.out.kept k5 (fun x => x) (fun x => x)
                    have R5 := RG.out.keptF k5
                    have g0 : w5.cell? ⟨pg, 0, none⟩ = some (.int .u64 0) := by rw [cell_of_row w5 pg 0 _ _ _ B5.got]; rfl
                    have g1 : w5.cell? ⟨pg, 1, none⟩ = some (.int .i64 0) := by rw [cell_of_row w5 pg 1 _ _ _ B5.got]; rfl
                    have g2 : w5.cell? ⟨pg, 2, none⟩ = some (.int .i64 0) := by rw [cell_of_row w5 pg 2 _ _ _ B5.got]; rfl
                    have f0 : w5.frozen? ⟨pg, 0, none⟩ = false := by simp [World.frozen?, B5.got]
                    have f1 : w5.frozen? ⟨pg, 1, none⟩ = false := by simp [World.frozen?, B5.got]
                    have f2 : w5.frozen? ⟨pg, 2, none⟩ = false := by simp [World.frozen?, B5.got]
                    have b0 : w5.cell? ⟨pb, 0, none⟩ = some (.int .i64 2) := by rw [cell_of_row w5 pb 0 _ _ _ B5.word]; rfl
                    have b1 : w5.cell? ⟨pb, 1, none⟩ = some (.int .i64 n) := by rw [cell_of_row w5 pb 1 _ _ _ B5.word]; rfl
                    have F3 := Lib.hid (Boxes.three (gv := gv) (gn := (gn : Int)) (ge := ge) B5 hne R5 HPG.out hgr)
                    have HB5 := Lib.hid B5
                    have HR5 := Lib.hid R5
                    clear B5 R5 k5
                    unfold Got
                    go_wp2
                    go_meet
                    case rel => exact ⟨by rw [hd]; rfl, by rw [hd]; exact F3.out.1, F3.out.2⟩
                · skip
                  by_cases hk3 : k = 3
                  · subst hk3
                    as_aux_lemma =>
                      have q0 : ((3 : Int) == 0) = false := rfl
                      have q1 : ((3 : Int) == 1) = false := rfl
                      have q2 : ((3 : Int) == 2) = false := rfl
                      have q4 : ((3 : Int) == 4) = false := rfl
                      have q5 : ((3 : Int) == 5) = false := rfl
                      have hcf : countF l t 0 n = if (lookF l t).2.2 = 0 ∧ (n < 0 ∨ n < (lookF l t).1) then (0, 0, 4) else lookF l t := by unfold countF; rw [lookE_zero]
                      have hlf : ∀ v m e, lookF l t = (v, m, e) → e ≠ 0 → v = 0 ∧ m = 0 := fun v m e h he => look_fault l t m v e h he
                      have hln : ∀ v m, lookF l t = (v, m, 0) → 0 ≤ v ∧ v ≤ 18446744073709551615 ∧ t + m ≤ l.length := fun v m h => by
                        have := look_num l t m v HBY.out h
                        exact ⟨this.2.1, this.2.2.1, this.2.2.2.2.2⟩
                      have hd : D = (if (countF l t 0 n).2.2 ≠ 0 then (0, [], 0, (countF l t 0 n).2.2)
                           else if (l.length : Int) - t - (countF l t 0 n).2.1 < (countF l t 0 n).1 then (0, [], 0, 2)
                           else ((countF l t 0 n).1, (l.drop (t + (countF l t 0 n).2.1)).take (countF l t 0 n).1.toNat, (countF l t 0 n).2.1 + (countF l t 0 n).1.toNat, 0)) := by rw [HDD.out]; rfl
                      obtain ⟨q, hq⟩ : ∃ q, q = lookF l t := ⟨_, rfl⟩
                      rw [← hq] at hcf HGN hlf hln
                      obtain ⟨gv, gn, ge⟩ := q
                      simp only at hcf
                      have hlf := fun h => hlf gv gn ge rfl h
                      have hln := fun h : ge = 0 => hln gv gn (by rw [h])
                      have HC := Lib.hid (HGN.out wg (Kept.refl _ _))
                      clear hq
                      by_cases he : ge = 0
                      · subst he
                        obtain ⟨v0, v1, hm⟩ := hln rfl
                        have hmj : t + gn ≤ j := by have := HLL.out; omega
                        clear hlf hln
                        by_cases hn0 : n < 0
                        · rw [if_pos ⟨rfl, .inl hn0⟩] at hcf
                          rw [hcf] at hd
                          clear hcf
                          as_aux_lemma =>
                          go_wp2_with fail
                          refine HC.out.mono ?_
                          rintro e' w5 ⟨rfl, k5⟩
                          have B5 := BX.out.kept k5 (fun x => x) (fun x => x)
                          have R5 := RG.out.keptF k5
                          have g0 : w5.cell? ⟨pg, 0, none⟩ = some (.int .u64 0) := by rw [cell_of_row w5 pg 0 _ _ _ B5.got]; rfl
                          have g1 : w5.cell? ⟨pg, 1, none⟩ = some (.int .i64 0) := by rw [cell_of_row w5 pg 1 _ _ _ B5.got]; rfl
                          have g2 : w5.cell? ⟨pg, 2, none⟩ = some (.int .i64 0) := by rw [cell_of_row w5 pg 2 _ _ _ B5.got]; rfl
                          have f0 : w5.frozen? ⟨pg, 0, none⟩ = false := by simp [World.frozen?, B5.got]
                          have f1 : w5.frozen? ⟨pg, 1, none⟩ = false := by simp [World.frozen?, B5.got]
                          have f2 : w5.frozen? ⟨pg, 2, none⟩ = false := by simp [World.frozen?, B5.got]
                          have b0 : w5.cell? ⟨pb, 0, none⟩ = some (.int .i64 3) := by rw [cell_of_row w5 pb 0 _ _ _ B5.word]; rfl
                          have b1 : w5.cell? ⟨pb, 1, none⟩ = some (.int .i64 n) := by rw [cell_of_row w5 pb 1 _ _ _ B5.word]; rfl
                          have F3 := Lib.hid (Boxes.three (gv := gv) (gn := (gn : Int)) (ge := 0) B5 hne R5 HPG.out hgr)
                          have HB5 := Lib.hid B5
                          have HR5 := Lib.hid R5
                          clear B5 R5 k5
                          unfold Got
                          go_upto_region 28 with fail
                          obtain ⟨w6, hw6⟩ : ∃ w6 : World, w6 = (((w5.setCell ⟨pg, 0, none⟩ (.int .u64 gv)).setCell ⟨pg, 1, none⟩ (.int .i64 (gn : Int))).setCell ⟨pg, 2, none⟩ (.int .i64 0)) := ⟨_, rfl⟩
                          rw [← hw6] at F3 ⊢
                          clear hw6 g0 g1 g2 f0 f1 f2 b0 b1
                          have b0 : w6.cell? ⟨pb, 0, none⟩ = some (.int .i64 3) := by rw [cell_of_row w6 pb 0 _ _ _ F3.out.1.word]; rfl
                          have b1 : w6.cell? ⟨pb, 1, none⟩ = some (.int .i64 n) := by rw [cell_of_row w6 pb 1 _ _ _ F3.out.1.word]; rfl
                          have g0 : w6.cell? ⟨pg, 0, none⟩ = some (.int .u64 gv) := by rw [cell_of_row w6 pg 0 _ _ _ F3.out.1.got]; rfl
                          have g1 : w6.cell? ⟨pg, 1, none⟩ = some (.int .i64 (gn : Int)) := by rw [cell_of_row w6 pg 1 _ _ _ F3.out.1.got]; rfl
                          have g2 : w6.cell? ⟨pg, 2, none⟩ = some (.int .i64 0) := by rw [cell_of_row w6 pg 2 _ _ _ F3.out.1.got]; rfl
                          have f0 : w6.frozen? ⟨pg, 0, none⟩ = false := by simp [World.frozen?, F3.out.1.got]
                          have f1 : w6.frozen? ⟨pg, 1, none⟩ = false := by simp [World.frozen?, F3.out.1.got]
                          have f2 : w6.frozen? ⟨pg, 2, none⟩ = false := by simp [World.frozen?, F3.out.1.got]
                          go_wp2
                          go_meet
                          case rel => exact ⟨by rw [hd]; rfl, by rw [hd]; exact (F3.out.1.three hne F3.out.2 HPG.out hgr).1, (F3.out.1.three hne F3.out.2 HPG.out hgr (gv := 0) (gn := 0) (ge := 4)).2⟩
                        · have hn1 : 0 ≤ n := by omega
                          have z1 : decide (n < 0) = false := decide_eq_false hn0
                          have z3 : ¬ n < 0 := hn0
                          have m3 : IntKind.u64.wrap n = n := wrap_u64_of _ hn1 (by omega)
                          by_cases hx : n < gv
                          · have z2 : decide (n < gv) = true := decide_eq_true hx
                            rw [if_pos ⟨rfl, .inr hx⟩] at hcf
                            rw [hcf] at hd
                            clear hcf
                            as_aux_lemma =>
                            go_wp2_with fail
                            refine HC.out.mono ?_
                            rintro e' w5 ⟨rfl, k5⟩
                            have B5 := BX.out.kept k5 (fun x => x) (fun x => x)
                            have R5 := RG.out.keptF k5
                            have g0 : w5.cell? ⟨pg, 0, none⟩ = some (.int .u64 0) := by rw [cell_of_row w5 pg 0 _ _ _ B5.got]; rfl
                            have g1 : w5.cell? ⟨pg, 1, none⟩ = some (.int .i64 0) := by rw [cell_of_row w5 pg 1 _ _ _ B5.got]; rfl
                            have g2 : w5.cell? ⟨pg, 2, none⟩ = some (.int .i64 0) := by rw [cell_of_row w5 pg 2 _ _ _ B5.got]; rfl
                            have f0 : w5.frozen? ⟨pg, 0, none⟩ = false := by simp [World.frozen?, B5.got]
                            have f1 : w5.frozen? ⟨pg, 1, none⟩ = false := by simp [World.frozen?, B5.got]
                            have f2 : w5.frozen? ⟨pg, 2, none⟩ = false := by simp [World.frozen?, B5.got]
                            have b0 : w5.cell? ⟨pb, 0, none⟩ = some (.int .i64 3) := by rw [cell_of_row w5 pb 0 _ _ _ B5.word]; rfl
                            have b1 : w5.cell? ⟨pb, 1, none⟩ = some (.int .i64 n) := by rw [cell_of_row w5 pb 1 _ _ _ B5.word]; rfl
                            have F3 := Lib.hid (Boxes.three (gv := gv) (gn := (gn : Int)) (ge := 0) B5 hne R5 HPG.out hgr)
                            have HB5 := Lib.hid B5
                            have HR5 := Lib.hid R5
                            clear B5 R5 k5
                            unfold Got
                            go_upto_region 28 with fail
                            obtain ⟨w6, hw6⟩ : ∃ w6 : World, w6 = (((w5.setCell ⟨pg, 0, none⟩ (.int .u64 gv)).setCell ⟨pg, 1, none⟩ (.int .i64 (gn : Int))).setCell ⟨pg, 2, none⟩ (.int .i64 0)) := ⟨_, rfl⟩
                            rw [← hw6] at F3 ⊢
                            clear hw6 g0 g1 g2 f0 f1 f2 b0 b1
                            have b0 : w6.cell? ⟨pb, 0, none⟩ = some (.int .i64 3) := by rw [cell_of_row w6 pb 0 _ _ _ F3.out.1.word]; rfl
                            have b1 : w6.cell? ⟨pb, 1, none⟩ = some (.int .i64 n) := by rw [cell_of_row w6 pb 1 _ _ _ F3.out.1.word]; rfl
                            have g0 : w6.cell? ⟨pg, 0, none⟩ = some (.int .u64 gv) := by rw [cell_of_row w6 pg 0 _ _ _ F3.out.1.got]; rfl
                            have g1 : w6.cell? ⟨pg, 1, none⟩ = some (.int .i64 (gn : Int)) := by rw [cell_of_row w6 pg 1 _ _ _ F3.out.1.got]; rfl
                            have g2 : w6.cell? ⟨pg, 2, none⟩ = some (.int .i64 0) := by rw [cell_of_row w6 pg 2 _ _ _ F3.out.1.got]; rfl
                            have f0 : w6.frozen? ⟨pg, 0, none⟩ = false := by simp [World.frozen?, F3.out.1.got]
                            have f1 : w6.frozen? ⟨pg, 1, none⟩ = false := by simp [World.frozen?, F3.out.1.got]
                            have f2 : w6.frozen? ⟨pg, 2, none⟩ = false := by simp [World.frozen?, F3.out.1.got]
                            go_wp2
                            go_meet
                            case rel => exact ⟨by rw [hd]; rfl, by rw [hd]; exact (F3.out.1.three hne F3.out.2 HPG.out hgr).1, (F3.out.1.three hne F3.out.2 HPG.out hgr (gv := 0) (gn := 0) (ge := 4)).2⟩
                          · have hx' : ¬ n < gv := hx
                            rw [if_neg (by omega)] at hcf
                            rw [hcf] at hd
                            clear hcf
                            rw [if_neg (by simp)] at hd
                            obtain ⟨V, rfl⟩ : ∃ V : Nat, gv = V := ⟨gv.toNat, by omega⟩
                            have z2 : decide (n < (V : Int)) = false := decide_eq_false hx
                            obtain ⟨R1, hR1⟩ : ∃ R1, R1 = j - t - gn := ⟨_, rfl⟩
                            have r0 : IntKind.i64.wrap ((j : Int) - (t : Int)) = (j : Int) - (t : Int) := IntWalk.i64_in _ ⟨by omega, by omega⟩
                            have r1 : (j : Int) - (t : Int) - (gn : Int) = (R1 : Int) := by omega
                            have r2 : IntKind.i64.wrap (R1 : Int) = (R1 : Int) := IntWalk.i64_in _ ⟨by omega, by omega⟩
                            have r3 : IntKind.u64.wrap (R1 : Int) = (R1 : Int) := wrap_u64_of _ (by omega) (by omega)
                            by_cases hs : R1 < V
                            · rw [if_pos (by have := HLL.out; simp only; omega)] at hd
                              have hs1 : (R1 : Int) < (V : Int) := by omega
                              have hs2 : decide (R1 < V) = true := decide_eq_true hs
                              clear hR1 hs
                              as_aux_lemma =>
                              go_wp2_with fail
                              refine HC.out.mono ?_
                              rintro e' w5 ⟨rfl, k5⟩
                              have B5 := BX.out.kept k5 (fun x => x) (fun x => x)
                              have R5 := RG.out.keptF k5
                              have g0 : w5.cell? ⟨pg, 0, none⟩ = some (.int .u64 0) := by rw [cell_of_row w5 pg 0 _ _ _ B5.got]; rfl
                              have g1 : w5.cell? ⟨pg, 1, none⟩ = some (.int .i64 0) := by rw [cell_of_row w5 pg 1 _ _ _ B5.got]; rfl
                              have g2 : w5.cell? ⟨pg, 2, none⟩ = some (.int .i64 0) := by rw [cell_of_row w5 pg 2 _ _ _ B5.got]; rfl
                              have f0 : w5.frozen? ⟨pg, 0, none⟩ = false := by simp [World.frozen?, B5.got]
                              have f1 : w5.frozen? ⟨pg, 1, none⟩ = false := by simp [World.frozen?, B5.got]
                              have f2 : w5.frozen? ⟨pg, 2, none⟩ = false := by simp [World.frozen?, B5.got]
                              have b0 : w5.cell? ⟨pb, 0, none⟩ = some (.int .i64 3) := by rw [cell_of_row w5 pb 0 _ _ _ B5.word]; rfl
                              have b1 : w5.cell? ⟨pb, 1, none⟩ = some (.int .i64 n) := by rw [cell_of_row w5 pb 1 _ _ _ B5.word]; rfl
                              have F3 := Lib.hid (Boxes.three (gv := (V : Int)) (gn := (gn : Int)) (ge := 0) B5 hne R5 HPG.out hgr)
                              have HB5 := Lib.hid B5
                              have HR5 := Lib.hid R5
                              clear B5 R5 k5
                              unfold Got
                              go_upto_region 28 with fail
                              obtain ⟨w6, hw6⟩ : ∃ w6 : World, w6 = (((w5.setCell ⟨pg, 0, none⟩ (.int .u64 (V : Int))).setCell ⟨pg, 1, none⟩ (.int .i64 (gn : Int))).setCell ⟨pg, 2, none⟩ (.int .i64 0)) := ⟨_, rfl⟩
                              rw [← hw6] at F3 ⊢
                              clear hw6 g0 g1 g2 f0 f1 f2 b0 b1
                              have b0 : w6.cell? ⟨pb, 0, none⟩ = some (.int .i64 3) := by rw [cell_of_row w6 pb 0 _ _ _ F3.out.1.word]; rfl
                              have b1 : w6.cell? ⟨pb, 1, none⟩ = some (.int .i64 n) := by rw [cell_of_row w6 pb 1 _ _ _ F3.out.1.word]; rfl
                              have g0 : w6.cell? ⟨pg, 0, none⟩ = some (.int .u64 (V : Int)) := by rw [cell_of_row w6 pg 0 _ _ _ F3.out.1.got]; rfl
                              have g1 : w6.cell? ⟨pg, 1, none⟩ = some (.int .i64 (gn : Int)) := by rw [cell_of_row w6 pg 1 _ _ _ F3.out.1.got]; rfl
                              have g2 : w6.cell? ⟨pg, 2, none⟩ = some (.int .i64 0) := by rw [cell_of_row w6 pg 2 _ _ _ F3.out.1.got]; rfl
                              have f0 : w6.frozen? ⟨pg, 0, none⟩ = false := by simp [World.frozen?, F3.out.1.got]
                              have f1 : w6.frozen? ⟨pg, 1, none⟩ = false := by simp [World.frozen?, F3.out.1.got]
                              have f2 : w6.frozen? ⟨pg, 2, none⟩ = false := by simp [World.frozen?, F3.out.1.got]
                              go_wp2
                              go_meet
                              case rel => exact ⟨by rw [hd]; rfl, by rw [hd]; exact (F3.out.1.three hne F3.out.2 HPG.out hgr).1, (F3.out.1.three hne F3.out.2 HPG.out hgr (gv := 0) (gn := 0) (ge := 2)).2⟩
                            · rw [if_neg (by have := HLL.out; simp only; omega)] at hd
                              have hs1 : ¬ (R1 : Int) < (V : Int) := by omega
                              have hs2 : decide (R1 < V) = false := decide_eq_false hs
                              obtain ⟨T1, hT1⟩ : ∃ T1, T1 = t + gn := ⟨_, rfl⟩
                              obtain ⟨T2, hT2⟩ : ∃ T2, T2 = T1 + V := ⟨_, rfl⟩
                              obtain ⟨M2, hM2⟩ : ∃ M2, M2 = gn + V := ⟨_, rfl⟩
                              have t1 : (t : Int) + (gn : Int) = (T1 : Int) := by omega
                              have t2 : IntKind.i64.wrap (T1 : Int) = (T1 : Int) := IntWalk.i64_in _ ⟨by omega, by omega⟩
                              have t3 : (T1 : Int) + (V : Int) = (T2 : Int) := by omega
                              have t4 : IntKind.i64.wrap (T2 : Int) = (T2 : Int) := IntWalk.i64_in _ ⟨by omega, by omega⟩
                              have t5 : IntKind.i64.wrap (V : Int) = (V : Int) := IntWalk.i64_in _ ⟨by omega, by omega⟩
                              have t6 : (gn : Int) + (V : Int) = (M2 : Int) := by omega
                              have t7 : IntKind.i64.wrap (M2 : Int) = (M2 : Int) := IntWalk.i64_in _ ⟨by omega, by omega⟩
                              have hd2 : D = ((V : Int), (l.drop T1).take V, M2, 0) := by rw [hd, Int.toNat_natCast, hT1, hM2]
                              obtain ⟨A2, hA2⟩ : ∃ A2, A2 = (if cb = T1 then ab else ab.map (·.add T1)) := ⟨_, rfl⟩
                              obtain ⟨c2, hcc⟩ : ∃ c2, c2 = cb - T1 := ⟨_, rfl⟩
                              have hm2 : T2 - T1 = V := by omega
                              have s1 := fun w => wrun_cut (P := Try.prog) Try.underlying29 hi hz1 ab j cb T1 T2 (by omega) (by omega) w
                              have s2 := fun w => wrun_cutAt (P := Try.prog) Try.underlying29 hi hz1 ab j cb T1 T2 (by omega) (by omega) w
                              rw [← hA2, ← hcc, hm2] at s1 s2
                              obtain ⟨STR, hSTR⟩ : ∃ S, S = strOfNums ((l.drop T1).take V) := ⟨_, rfl⟩
                              have HCV : Hid (∀ w', Kept (fun k => W.heap.size ≤ k) W w' → (convert 29 9 (.slice A2 V c2)).run Try.prog w' = .ok (.string STR) w') := by
                                show ∀ w', _ → _
                                intro w' hk'
                                have h5 := (HVF.out w' hk').cut (lo := T1) (hi := T2) (by omega) (by omega) hcap
                                rw [← hA2, ← hcc, hm2] at h5
                                have h6 : ((l.drop T1).take V).length = V := by have := HLL.out; rw [List.length_take, List.length_drop]; omega
                                have h7 : SliceAt w' (.slice A2 V c2) A2 ((l.drop T1).take V).length c2 (u8s ((l.drop T1).take V)) := by rw [h6]; exact h5
                                rw [hSTR]
                                exact h7.run_str (P := Try.prog) 29 5 9 Try.underlying29 Try.underlying5 Try.underlying9
                              have HST := Lib.hid hSTR
                              clear hR1 hs hT1 hT2 hM2 hd hA2 hcc hm2 hSTR
                              as_aux_lemma =>
                              go_wp2_with fail
                              refine HC.out.mono ?_
                              rintro e' w5 ⟨rfl, k5⟩
                              have B5 := BX.out.kept k5 (fun x => x) (fun x => x)
                              have R5 := RG.out.keptF k5
                              have g0 : w5.cell? ⟨pg, 0, none⟩ = some (.int .u64 0) := by rw [cell_of_row w5 pg 0 _ _ _ B5.got]; rfl
                              have g1 : w5.cell? ⟨pg, 1, none⟩ = some (.int .i64 0) := by rw [cell_of_row w5 pg 1 _ _ _ B5.got]; rfl
                              have g2 : w5.cell? ⟨pg, 2, none⟩ = some (.int .i64 0) := by rw [cell_of_row w5 pg 2 _ _ _ B5.got]; rfl
                              have f0 : w5.frozen? ⟨pg, 0, none⟩ = false := by simp [World.frozen?, B5.got]
                              have f1 : w5.frozen? ⟨pg, 1, none⟩ = false := by simp [World.frozen?, B5.got]
                              have f2 : w5.frozen? ⟨pg, 2, none⟩ = false := by simp [World.frozen?, B5.got]
                              have b0 : w5.cell? ⟨pb, 0, none⟩ = some (.int .i64 3) := by rw [cell_of_row w5 pb 0 _ _ _ B5.word]; rfl
                              have b1 : w5.cell? ⟨pb, 1, none⟩ = some (.int .i64 n) := by rw [cell_of_row w5 pb 1 _ _ _ B5.word]; rfl
                              have F3 := Lib.hid (Boxes.three (gv := (V : Int)) (gn := (gn : Int)) (ge := 0) B5 hne R5 HPG.out hgr)
                              have HB5 := Lib.hid B5
                              have HR5 := Lib.hid R5
                              clear B5 R5 k5
                              unfold Got
                              go_upto_region 28 with fail
                              obtain ⟨w6, hw6⟩ : ∃ w6 : World, w6 = (((w5.setCell ⟨pg, 0, none⟩ (.int .u64 (V : Int))).setCell ⟨pg, 1, none⟩ (.int .i64 (gn : Int))).setCell ⟨pg, 2, none⟩ (.int .i64 0)) := ⟨_, rfl⟩
                              rw [← hw6] at F3 ⊢
                              clear hw6 g0 g1 g2 f0 f1 f2 b0 b1
                              have b0 : w6.cell? ⟨pb, 0, none⟩ = some (.int .i64 3) := by rw [cell_of_row w6 pb 0 _ _ _ F3.out.1.word]; rfl
                              have b1 : w6.cell? ⟨pb, 1, none⟩ = some (.int .i64 n) := by rw [cell_of_row w6 pb 1 _ _ _ F3.out.1.word]; rfl
                              have g0 : w6.cell? ⟨pg, 0, none⟩ = some (.int .u64 (V : Int)) := by rw [cell_of_row w6 pg 0 _ _ _ F3.out.1.got]; rfl
                              have g1 : w6.cell? ⟨pg, 1, none⟩ = some (.int .i64 (gn : Int)) := by rw [cell_of_row w6 pg 1 _ _ _ F3.out.1.got]; rfl
                              have g2 : w6.cell? ⟨pg, 2, none⟩ = some (.int .i64 0) := by rw [cell_of_row w6 pg 2 _ _ _ F3.out.1.got]; rfl
                              have f0 : w6.frozen? ⟨pg, 0, none⟩ = false := by simp [World.frozen?, F3.out.1.got]
                              have f1 : w6.frozen? ⟨pg, 1, none⟩ = false := by simp [World.frozen?, F3.out.1.got]
                              have f2 : w6.frozen? ⟨pg, 2, none⟩ = false := by simp [World.frozen?, F3.out.1.got]
                              have hcv := HCV.out w6 F3.out.2.keptB
                              go_wp2
                              go_meet
                              case rel => exact ⟨by rw [hd2, HST.out], by rw [hd2]; exact (F3.out.1.n1 hne F3.out.2 HPG.out hgr).1, (F3.out.1.n1 hne F3.out.2 HPG.out hgr (gn' := (M2 : Int))).2⟩
                      · obtain ⟨hz, hy⟩ := hlf he
                        subst hz; subst hy
                        rw [if_neg (fun h => he h.1)] at hcf
                        rw [hcf] at hd
                        rw [if_pos he] at hd
                        have q9 : (ge == 0) = false := by simp [he]
                        clear hcf hln hlf
                        as_aux_lemma =>
                        go_wp2_with fail
                        refine HC.out.mono ?_
                        rintro e' w5 ⟨rfl, k5⟩
                        have B5 := BX.out.kept k5 (fun x => x) (fun x => x)
                        have R5 := RG.out.keptF k5
                        have g0 : w5.cell? ⟨pg, 0, none⟩ = some (.int .u64 0) := by rw [cell_of_row w5 pg 0 _ _ _ B5.got]; rfl
                        have g1 : w5.cell? ⟨pg, 1, none⟩ = some (.int .i64 0) := by rw [cell_of_row w5 pg 1 _ _ _ B5.got]; rfl
                        have g2 : w5.cell? ⟨pg, 2, none⟩ = some (.int .i64 0) := by rw [cell_of_row w5 pg 2 _ _ _ B5.got]; rfl
                        have f0 : w5.frozen? ⟨pg, 0, none⟩ = false := by simp [World.frozen?, B5.got]
                        have f1 : w5.frozen? ⟨pg, 1, none⟩ = false := by simp [World.frozen?, B5.got]
                        have f2 : w5.frozen? ⟨pg, 2, none⟩ = false := by simp [World.frozen?, B5.got]
                        have b0 : w5.cell? ⟨pb, 0, none⟩ = some (.int .i64 3) := by rw [cell_of_row w5 pb 0 _ _ _ B5.word]; rfl
                        have b1 : w5.cell? ⟨pb, 1, none⟩ = some (.int .i64 n) := by rw [cell_of_row w5 pb 1 _ _ _ B5.word]; rfl
                        have F3 := Lib.hid (Boxes.three (gv := 0) (gn := 0) (ge := ge) B5 hne R5 HPG.out hgr)
                        have HB5 := Lib.hid B5
                        have HR5 := Lib.hid R5
                        clear B5 R5 k5
                        unfold Got
                        go_upto_region 28 with fail
                        obtain ⟨w6, hw6⟩ : ∃ w6 : World, w6 = (((w5.setCell ⟨pg, 0, none⟩ (.int .u64 0)).setCell ⟨pg, 1, none⟩ (.int .i64 0)).setCell ⟨pg, 2, none⟩ (.int .i64 ge)) := ⟨_, rfl⟩
                        rw [← hw6] at F3 ⊢
                        clear hw6 g0 g1 g2 f0 f1 f2 b0 b1
                        have b0 : w6.cell? ⟨pb, 0, none⟩ = some (.int .i64 3) := by rw [cell_of_row w6 pb 0 _ _ _ F3.out.1.word]; rfl
                        have b1 : w6.cell? ⟨pb, 1, none⟩ = some (.int .i64 n) := by rw [cell_of_row w6 pb 1 _ _ _ F3.out.1.word]; rfl
                        have g0 : w6.cell? ⟨pg, 0, none⟩ = some (.int .u64 0) := by rw [cell_of_row w6 pg 0 _ _ _ F3.out.1.got]; rfl
                        have g1 : w6.cell? ⟨pg, 1, none⟩ = some (.int .i64 0) := by rw [cell_of_row w6 pg 1 _ _ _ F3.out.1.got]; rfl
                        have g2 : w6.cell? ⟨pg, 2, none⟩ = some (.int .i64 ge) := by rw [cell_of_row w6 pg 2 _ _ _ F3.out.1.got]; rfl
                        have f0 : w6.frozen? ⟨pg, 0, none⟩ = false := by simp [World.frozen?, F3.out.1.got]
                        have f1 : w6.frozen? ⟨pg, 1, none⟩ = false := by simp [World.frozen?, F3.out.1.got]
                        have f2 : w6.frozen? ⟨pg, 2, none⟩ = false := by simp [World.frozen?, F3.out.1.got]
                        go_wp2
                        go_meet
                        case rel => exact ⟨by rw [hd]; rfl, by rw [hd]; exact F3.out.1, F3.out.2⟩
                  · skip
                    by_cases hk5 : k = 5
                    · subst hk5
                      as_aux_lemma =>
                        have q0 : ((5 : Int) == 0) = false := rfl
                        have q1 : ((5 : Int) == 1) = false := rfl
                        have q2 : ((5 : Int) == 2) = false := rfl
                        have q3 : ((5 : Int) == 3) = false := rfl
                        have q4 : ((5 : Int) == 4) = false := rfl
                        have hcf : countF l t 0 n = if (lookF l t).2.2 = 0 ∧ (n < 0 ∨ n < (lookF l t).1) then (0, 0, 4) else lookF l t := by unfold countF; rw [lookE_zero]
                        have hlf : ∀ v m e, lookF l t = (v, m, e) → e ≠ 0 → v = 0 ∧ m = 0 := fun v m e h he => look_fault l t m v e h he
                        have hln : ∀ v m, lookF l t = (v, m, 0) → 0 ≤ v ∧ v ≤ 18446744073709551615 ∧ t + m ≤ l.length := fun v m h => by
                          have := look_num l t m v HBY.out h
                          exact ⟨this.2.1, this.2.2.1, this.2.2.2.2.2⟩
                        have hd : D = ((countF l t 0 n).1, [], (countF l t 0 n).2.1, (countF l t 0 n).2.2) := by rw [HDD.out]; rfl
                        obtain ⟨q, hq⟩ : ∃ q, q = lookF l t := ⟨_, rfl⟩
                        rw [← hq] at hcf HGN hlf hln
                        obtain ⟨gv, gn, ge⟩ := q
                        simp only at hcf
                        have hlf := fun h => hlf gv gn ge rfl h
                        have hln := fun h : ge = 0 => hln gv gn (by rw [h])
                        have HC := Lib.hid (HGN.out wg (Kept.refl _ _))
                        clear hq
                        by_cases he : ge = 0
                        · subst he
                          obtain ⟨v0, v1, hm⟩ := hln rfl
                          have hmj : t + gn ≤ j := by have := HLL.out; omega
                          clear hlf hln
                          by_cases hn0 : n < 0
                          · rw [if_pos ⟨rfl, .inl hn0⟩] at hcf
                            rw [hcf] at hd
                            clear hcf
                            as_aux_lemma =>
                            go_wp2_with fail
                            refine HC.out.mono ?_
                            rintro e' w5 ⟨rfl, k5⟩
                            have B5 := BX.out.kept k5 (fun x => x) (fun x => x)
                            have R5 := RG.out.keptF k5
                            have g0 : w5.cell? ⟨pg, 0, none⟩ = some (.int .u64 0) := by rw [cell_of_row w5 pg 0 _ _ _ B5.got]; rfl
                            have g1 : w5.cell? ⟨pg, 1, none⟩ = some (.int .i64 0) := by rw [cell_of_row w5 pg 1 _ _ _ B5.got]; rfl
                            have g2 : w5.cell? ⟨pg, 2, none⟩ = some (.int .i64 0) := by rw [cell_of_row w5 pg 2 _ _ _ B5.got]; rfl
                            have f0 : w5.frozen? ⟨pg, 0, none⟩ = false := by simp [World.frozen?, B5.got]
                            have f1 : w5.frozen? ⟨pg, 1, none⟩ = false := by simp [World.frozen?, B5.got]
                            have f2 : w5.frozen? ⟨pg, 2, none⟩ = false := by simp [World.frozen?, B5.got]
                            have b0 : w5.cell? ⟨pb, 0, none⟩ = some (.int .i64 5) := by rw [cell_of_row w5 pb 0 _ _ _ B5.word]; rfl
                            have b1 : w5.cell? ⟨pb, 1, none⟩ = some (.int .i64 n) := by rw [cell_of_row w5 pb 1 _ _ _ B5.word]; rfl
                            have F3 := Lib.hid (Boxes.three (gv := gv) (gn := (gn : Int)) (ge := 0) B5 hne R5 HPG.out hgr)
                            have HB5 := Lib.hid B5
                            have HR5 := Lib.hid R5
                            clear B5 R5 k5
                            unfold Got
                            go_upto_region 28 with fail
                            obtain ⟨w6, hw6⟩ : ∃ w6 : World, w6 = (((w5.setCell ⟨pg, 0, none⟩ (.int .u64 gv)).setCell ⟨pg, 1, none⟩ (.int .i64 (gn : Int))).setCell ⟨pg, 2, none⟩ (.int .i64 0)) := ⟨_, rfl⟩
                            rw [← hw6] at F3 ⊢
                            clear hw6 g0 g1 g2 f0 f1 f2 b0 b1
                            have b0 : w6.cell? ⟨pb, 0, none⟩ = some (.int .i64 5) := by rw [cell_of_row w6 pb 0 _ _ _ F3.out.1.word]; rfl
                            have b1 : w6.cell? ⟨pb, 1, none⟩ = some (.int .i64 n) := by rw [cell_of_row w6 pb 1 _ _ _ F3.out.1.word]; rfl
                            have g0 : w6.cell? ⟨pg, 0, none⟩ = some (.int .u64 gv) := by rw [cell_of_row w6 pg 0 _ _ _ F3.out.1.got]; rfl
                            have g1 : w6.cell? ⟨pg, 1, none⟩ = some (.int .i64 (gn : Int)) := by rw [cell_of_row w6 pg 1 _ _ _ F3.out.1.got]; rfl
                            have g2 : w6.cell? ⟨pg, 2, none⟩ = some (.int .i64 0) := by rw [cell_of_row w6 pg 2 _ _ _ F3.out.1.got]; rfl
                            have f0 : w6.frozen? ⟨pg, 0, none⟩ = false := by simp [World.frozen?, F3.out.1.got]
                            have f1 : w6.frozen? ⟨pg, 1, none⟩ = false := by simp [World.frozen?, F3.out.1.got]
                            have f2 : w6.frozen? ⟨pg, 2, none⟩ = false := by simp [World.frozen?, F3.out.1.got]
                            go_wp2
                            go_meet
                            case rel => exact ⟨by rw [hd]; rfl, by rw [hd]; exact (F3.out.1.three hne F3.out.2 HPG.out hgr).1, (F3.out.1.three hne F3.out.2 HPG.out hgr (gv := 0) (gn := 0) (ge := 4)).2⟩
                          · have hn1 : 0 ≤ n := by omega
                            have z1 : decide (n < 0) = false := decide_eq_false hn0
                            have z3 : ¬ n < 0 := hn0
                            have m3 : IntKind.u64.wrap n = n := wrap_u64_of _ hn1 (by omega)
                            by_cases hx : n < gv
                            · have z2 : decide (n < gv) = true := decide_eq_true hx
                              rw [if_pos ⟨rfl, .inr hx⟩] at hcf
                              rw [hcf] at hd
                              clear hcf
                              as_aux_lemma =>
                              go_wp2_with fail
                              refine HC.out.mono ?_
                              rintro e' w5 ⟨rfl, k5⟩
                              have B5 := BX.out.kept k5 (fun x => x) (fun x => x)
                              have R5 := RG.out.keptF k5
                              have g0 : w5.cell? ⟨pg, 0, none⟩ = some (.int .u64 0) := by rw [cell_of_row w5 pg 0 _ _ _ B5.got]; rfl
                              have g1 : w5.cell? ⟨pg, 1, none⟩ = some (.int .i64 0) := by rw [cell_of_row w5 pg 1 _ _ _ B5.got]; rfl
                              have g2 : w5.cell? ⟨pg, 2, none⟩ = some (.int .i64 0) := by rw [cell_of_row w5 pg 2 _ _ _ B5.got]; rfl
                              have f0 : w5.frozen? ⟨pg, 0, none⟩ = false := by simp [World.frozen?, B5.got]
                              have f1 : w5.frozen? ⟨pg, 1, none⟩ = false := by simp [World.frozen?, B5.got]
                              have f2 : w5.frozen? ⟨pg, 2, none⟩ = false := by simp [World.frozen?, B5.got]
                              have b0 : w5.cell? ⟨pb, 0, none⟩ = some (.int .i64 5) := by rw [cell_of_row w5 pb 0 _ _ _ B5.word]; rfl
                              have b1 : w5.cell? ⟨pb, 1, none⟩ = some (.int .i64 n) := by rw [cell_of_row w5 pb 1 _ _ _ B5.word]; rfl
                              have F3 := Lib.hid (Boxes.three (gv := gv) (gn := (gn : Int)) (ge := 0) B5 hne R5 HPG.out hgr)
                              have HB5 := Lib.hid B5
                              have HR5 := Lib.hid R5
                              clear B5 R5 k5
                              unfold Got
                              go_upto_region 28 with fail
                              obtain ⟨w6, hw6⟩ : ∃ w6 : World, w6 = (((w5.setCell ⟨pg, 0, none⟩ (.int .u64 gv)).setCell ⟨pg, 1, none⟩ (.int .i64 (gn : Int))).setCell ⟨pg, 2, none⟩ (.int .i64 0)) := ⟨_, rfl⟩
                              rw [← hw6] at F3 ⊢
                              clear hw6 g0 g1 g2 f0 f1 f2 b0 b1
                              have b0 : w6.cell? ⟨pb, 0, none⟩ = some (.int .i64 5) := by rw [cell_of_row w6 pb 0 _ _ _ F3.out.1.word]; rfl
                              have b1 : w6.cell? ⟨pb, 1, none⟩ = some (.int .i64 n) := by rw [cell_of_row w6 pb 1 _ _ _ F3.out.1.word]; rfl
                              have g0 : w6.cell? ⟨pg, 0, none⟩ = some (.int .u64 gv) := by rw [cell_of_row w6 pg 0 _ _ _ F3.out.1.got]; rfl
                              have g1 : w6.cell? ⟨pg, 1, none⟩ = some (.int .i64 (gn : Int)) := by rw [cell_of_row w6 pg 1 _ _ _ F3.out.1.got]; rfl
                              have g2 : w6.cell? ⟨pg, 2, none⟩ = some (.int .i64 0) := by rw [cell_of_row w6 pg 2 _ _ _ F3.out.1.got]; rfl
                              have f0 : w6.frozen? ⟨pg, 0, none⟩ = false := by simp [World.frozen?, F3.out.1.got]
                              have f1 : w6.frozen? ⟨pg, 1, none⟩ = false := by simp [World.frozen?, F3.out.1.got]
                              have f2 : w6.frozen? ⟨pg, 2, none⟩ = false := by simp [World.frozen?, F3.out.1.got]
                              go_wp2
                              go_meet
                              case rel => exact ⟨by rw [hd]; rfl, by rw [hd]; exact (F3.out.1.three hne F3.out.2 HPG.out hgr).1, (F3.out.1.three hne F3.out.2 HPG.out hgr (gv := 0) (gn := 0) (ge := 4)).2⟩
                            · have hx' : ¬ n < gv := hx
                              rw [if_neg (by omega)] at hcf
                              rw [hcf] at hd
                              clear hcf
                              have z2 : decide (n < gv) = false := decide_eq_false hx
                              as_aux_lemma =>
                              go_wp2_with fail
                              refine HC.out.mono ?_
                              rintro e' w5 ⟨rfl, k5⟩
                              have B5 := BX.out.kept k5 (fun x => x) (fun x => x)
                              have R5 := RG.out.keptF k5
                              have g0 : w5.cell? ⟨pg, 0, none⟩ = some (.int .u64 0) := by rw [cell_of_row w5 pg 0 _ _ _ B5.got]; rfl
                              have g1 : w5.cell? ⟨pg, 1, none⟩ = some (.int .i64 0) := by rw [cell_of_row w5 pg 1 _ _ _ B5.got]; rfl
                              have g2 : w5.cell? ⟨pg, 2, none⟩ = some (.int .i64 0) := by rw [cell_of_row w5 pg 2 _ _ _ B5.got]; rfl
                              have f0 : w5.frozen? ⟨pg, 0, none⟩ = false := by simp [World.frozen?, B5.got]
                              have f1 : w5.frozen? ⟨pg, 1, none⟩ = false := by simp [World.frozen?, B5.got]
                              have f2 : w5.frozen? ⟨pg, 2, none⟩ = false := by simp [World.frozen?, B5.got]
                              have b0 : w5.cell? ⟨pb, 0, none⟩ = some (.int .i64 5) := by rw [cell_of_row w5 pb 0 _ _ _ B5.word]; rfl
                              have b1 : w5.cell? ⟨pb, 1, none⟩ = some (.int .i64 n) := by rw [cell_of_row w5 pb 1 _ _ _ B5.word]; rfl
                              have F3 := Lib.hid (Boxes.three (gv := gv) (gn := (gn : Int)) (ge := 0) B5 hne R5 HPG.out hgr)
                              have HB5 := Lib.hid B5
                              have HR5 := Lib.hid R5
                              clear B5 R5 k5
                              unfold Got
                              go_upto_region 28 with fail
                              obtain ⟨w6, hw6⟩ : ∃ w6 : World, w6 = (((w5.setCell ⟨pg, 0, none⟩ (.int .u64 gv)).setCell ⟨pg, 1, none⟩ (.int .i64 (gn : Int))).setCell ⟨pg, 2, none⟩ (.int .i64 0)) := ⟨_, rfl⟩
                              rw [← hw6] at F3 ⊢
                              clear hw6 g0 g1 g2 f0 f1 f2 b0 b1
                              have b0 : w6.cell? ⟨pb, 0, none⟩ = some (.int .i64 5) := by rw [cell_of_row w6 pb 0 _ _ _ F3.out.1.word]; rfl
                              have b1 : w6.cell? ⟨pb, 1, none⟩ = some (.int .i64 n) := by rw [cell_of_row w6 pb 1 _ _ _ F3.out.1.word]; rfl
                              have g0 : w6.cell? ⟨pg, 0, none⟩ = some (.int .u64 gv) := by rw [cell_of_row w6 pg 0 _ _ _ F3.out.1.got]; rfl
                              have g1 : w6.cell? ⟨pg, 1, none⟩ = some (.int .i64 (gn : Int)) := by rw [cell_of_row w6 pg 1 _ _ _ F3.out.1.got]; rfl
                              have g2 : w6.cell? ⟨pg, 2, none⟩ = some (.int .i64 0) := by rw [cell_of_row w6 pg 2 _ _ _ F3.out.1.got]; rfl
                              have f0 : w6.frozen? ⟨pg, 0, none⟩ = false := by simp [World.frozen?, F3.out.1.got]
                              have f1 : w6.frozen? ⟨pg, 1, none⟩ = false := by simp [World.frozen?, F3.out.1.got]
                              have f2 : w6.frozen? ⟨pg, 2, none⟩ = false := by simp [World.frozen?, F3.out.1.got]
                              go_wp2
                              go_meet
                              case rel => exact ⟨by rw [hd]; rfl, by rw [hd]; exact F3.out.1, F3.out.2⟩
                        · obtain ⟨hz, hy⟩ := hlf he
                          subst hz; subst hy
                          rw [if_neg (fun h => he h.1)] at hcf
                          rw [hcf] at hd
                          have q9 : (ge == 0) = false := by simp [he]
                          clear hcf hln hlf
                          as_aux_lemma =>
                          go_wp2_with fail
                          refine HC.out.mono ?_
                          rintro e' w5 ⟨rfl, k5⟩
                          have B5 := BX.out.kept k5 (fun x => x) (fun x => x)
                          have R5 := RG.out.keptF k5
                          have g0 : w5.cell? ⟨pg, 0, none⟩ = some (.int .u64 0) := by rw [cell_of_row w5 pg 0 _ _ _ B5.got]; rfl
                          have g1 : w5.cell? ⟨pg, 1, none⟩ = some (.int .i64 0) := by rw [cell_of_row w5 pg 1 _ _ _ B5.got]; rfl
                          have g2 : w5.cell? ⟨pg, 2, none⟩ = some (.int .i64 0) := by rw [cell_of_row w5 pg 2 _ _ _ B5.got]; rfl
                          have f0 : w5.frozen? ⟨pg, 0, none⟩ = false := by simp [World.frozen?, B5.got]
                          have f1 : w5.frozen? ⟨pg, 1, none⟩ = false := by simp [World.frozen?, B5.got]
                          have f2 : w5.frozen? ⟨pg, 2, none⟩ = false := by simp [World.frozen?, B5.got]
                          have b0 : w5.cell? ⟨pb, 0, none⟩ = some (.int .i64 5) := by rw [cell_of_row w5 pb 0 _ _ _ B5.word]; rfl
                          have b1 : w5.cell? ⟨pb, 1, none⟩ = some (.int .i64 n) := by rw [cell_of_row w5 pb 1 _ _ _ B5.word]; rfl
                          have F3 := Lib.hid (Boxes.three (gv := 0) (gn := 0) (ge := ge) B5 hne R5 HPG.out hgr)
                          have HB5 := Lib.hid B5
                          have HR5 := Lib.hid R5
                          clear B5 R5 k5
                          unfold Got
                          go_upto_region 28 with fail
                          obtain ⟨w6, hw6⟩ : ∃ w6 : World, w6 = (((w5.setCell ⟨pg, 0, none⟩ (.int .u64 0)).setCell ⟨pg, 1, none⟩ (.int .i64 0)).setCell ⟨pg, 2, none⟩ (.int .i64 ge)) := ⟨_, rfl⟩
                          rw [← hw6] at F3 ⊢
                          clear hw6 g0 g1 g2 f0 f1 f2 b0 b1
                          have b0 : w6.cell? ⟨pb, 0, none⟩ = some (.int .i64 5) := by rw [cell_of_row w6 pb 0 _ _ _ F3.out.1.word]; rfl
                          have b1 : w6.cell? ⟨pb, 1, none⟩ = some (.int .i64 n) := by rw [cell_of_row w6 pb 1 _ _ _ F3.out.1.word]; rfl
                          have g0 : w6.cell? ⟨pg, 0, none⟩ = some (.int .u64 0) := by rw [cell_of_row w6 pg 0 _ _ _ F3.out.1.got]; rfl
                          have g1 : w6.cell? ⟨pg, 1, none⟩ = some (.int .i64 0) := by rw [cell_of_row w6 pg 1 _ _ _ F3.out.1.got]; rfl
                          have g2 : w6.cell? ⟨pg, 2, none⟩ = some (.int .i64 ge) := by rw [cell_of_row w6 pg 2 _ _ _ F3.out.1.got]; rfl
                          have f0 : w6.frozen? ⟨pg, 0, none⟩ = false := by simp [World.frozen?, F3.out.1.got]
                          have f1 : w6.frozen? ⟨pg, 1, none⟩ = false := by simp [World.frozen?, F3.out.1.got]
                          have f2 : w6.frozen? ⟨pg, 2, none⟩ = false := by simp [World.frozen?, F3.out.1.got]
                          go_wp2
                          go_meet
                          case rel => exact ⟨by rw [hd]; rfl, by rw [hd]; exact F3.out.1, F3.out.2⟩
                    · skip
                      by_cases hk4 : k = 4
                      · subst hk4
                        as_aux_lemma =>
                          have q0 : ((4 : Int) == 0) = false := rfl
                          have q1 : ((4 : Int) == 1) = false := rfl
                          have q2 : ((4 : Int) == 2) = false := rfl
                          have q3 : ((4 : Int) == 3) = false := rfl
                          have q5 : ((4 : Int) == 5) = false := rfl
                          have hd : D = (if n < 0 then (0, [], 0, 1) else if (l.length : Int) - t < n then (0, [], 0, 2) else (0, (l.drop t).take n.toNat, n.toNat, 0)) := by rw [HDD.out]; rfl
                          have g0 : wg.cell? ⟨pg, 0, none⟩ = some (.int .u64 0) := by rw [cell_of_row wg pg 0 _ _ _ BX.out.got]; rfl
                          have g1 : wg.cell? ⟨pg, 1, none⟩ = some (.int .i64 0) := by rw [cell_of_row wg pg 1 _ _ _ BX.out.got]; rfl
                          have g2 : wg.cell? ⟨pg, 2, none⟩ = some (.int .i64 0) := by rw [cell_of_row wg pg 2 _ _ _ BX.out.got]; rfl
                          have f1 : wg.frozen? ⟨pg, 1, none⟩ = false := by simp [World.frozen?, BX.out.got]
                          have f2 : wg.frozen? ⟨pg, 2, none⟩ = false := by simp [World.frozen?, BX.out.got]
                          by_cases hn0 : n < 0
                          · rw [if_pos hn0] at hd
                            go_wp2
                            go_meet
                            case rel => exact ⟨by rw [hd]; rfl, by rw [hd]; exact (BX.out.n2 hne RG.out HPG.out hgr).1, (BX.out.n2 hne RG.out HPG.out hgr (ge' := 1)).2⟩
                          · rw [if_neg hn0] at hd
                            obtain ⟨N, rfl⟩ : ∃ N : Nat, n = N := ⟨n.toNat, by omega⟩
                            obtain ⟨R1, hR1⟩ : ∃ R1, R1 = j - t := ⟨_, rfl⟩
                            have r1 : (j : Int) - (t : Int) = (R1 : Int) := by omega
                            have r2 : IntKind.i64.wrap (R1 : Int) = (R1 : Int) := IntWalk.i64_in _ ⟨by omega, by omega⟩
                            by_cases hs : R1 < N
                            · rw [if_pos (by have := HLL.out; omega)] at hd
                              have hs1 : (R1 : Int) < (N : Int) := by omega
                              have hs2 : decide (R1 < N) = true := decide_eq_true hs
                              clear hR1 hs
                              go_wp2
                              go_meet
                              case rel => exact ⟨by rw [hd]; rfl, by rw [hd]; exact (BX.out.n2 hne RG.out HPG.out hgr).1, (BX.out.n2 hne RG.out HPG.out hgr (ge' := 2)).2⟩
                            · rw [if_neg (by have := HLL.out; omega), Int.toNat_natCast] at hd
                              have hs1 : ¬ (R1 : Int) < (N : Int) := by omega
                              have hs2 : decide (R1 < N) = false := decide_eq_false hs
                              obtain ⟨T2, hT2⟩ : ∃ T2, T2 = t + N := ⟨_, rfl⟩
                              have t3 : (t : Int) + (N : Int) = (T2 : Int) := by omega
                              have t4 : IntKind.i64.wrap (T2 : Int) = (T2 : Int) := IntWalk.i64_in _ ⟨by omega, by omega⟩
                              obtain ⟨A2, hA2⟩ : ∃ A2, A2 = (if cb = t then ab else ab.map (·.add t)) := ⟨_, rfl⟩
                              obtain ⟨c2, hcc⟩ : ∃ c2, c2 = cb - t := ⟨_, rfl⟩
                              have hm2 : T2 - t = N := by omega
                              have s1 := fun w => wrun_cut (P := Try.prog) Try.underlying29 hi hz1 ab j cb t T2 (by omega) (by omega) w
                              have s2 := fun w => wrun_cutAt (P := Try.prog) Try.underlying29 hi hz1 ab j cb t T2 (by omega) (by omega) w
                              rw [← hA2, ← hcc, hm2] at s1 s2
                              obtain ⟨STR, hSTR⟩ : ∃ S, S = strOfNums ((l.drop t).take N) := ⟨_, rfl⟩
                              have hcv : (convert 29 9 (.slice A2 N c2)).run Try.prog wg = .ok (.string STR) wg := by
                                have h5 := (HVF.out wg RG.out.keptB).cut (lo := t) (hi := T2) (by omega) (by omega) hcap
                                rw [← hA2, ← hcc, hm2] at h5
                                have h6 : ((l.drop t).take N).length = N := by have := HLL.out; rw [List.length_take, List.length_drop]; omega
                                have h7 : SliceAt wg (.slice A2 N c2) A2 ((l.drop t).take N).length c2 (u8s ((l.drop t).take N)) := by rw [h6]; exact h5
                                rw [hSTR]
                                exact h7.run_str (P := Try.prog) 29 5 9 Try.underlying29 Try.underlying5 Try.underlying9
                              have HST := Lib.hid hSTR
                              clear hR1 hs hT2 hA2 hcc hm2 hSTR
                              go_wp2
                              go_meet
                              case rel => exact ⟨by rw [hd, HST.out], by rw [hd]; exact (BX.out.n1 hne RG.out HPG.out hgr).1, (BX.out.n1 hne RG.out HPG.out hgr (gn' := (N : Int))).2⟩
                      · skip
                        have q0 : (k == 0) = false := by simp [hk0]
                        have q1 : (k == 1) = false := by simp [hk1]
                        have q2 : (k == 2) = false := by simp [hk2]
                        have q3 : (k == 3) = false := by simp [hk3]
                        have q4 : (k == 4) = false := by simp [hk4]
                        have q5 : (k == 5) = false := by simp [hk5]
                        have hd : D = (0, [], 0, 0) := by
                          rw [HDD.out]
                          unfold docF
                          simp only [hk0, hk1, hk2, hk3, hk4, hk5, if_false, or_self]
                        go_wp2
                        go_meet
                        case rel => exact ⟨by rw [hd]; rfl, by rw [hd]; exact BX.out, RG.out⟩
          case rest =>
            obtain ⟨hbr, hgr, hne⟩ := hpp
            have hne2 : pg ≠ pb := fun e => hne e.symm
            obtain ⟨rfl, BD, RD⟩ := hcut
            have HTL : Hid (t ≤ l.length) := by show _ ≤ _; have := HLL.out; omega
            have HBD := Lib.hid BD
            have HRD := Lib.hid RD
            clear BD RD BX RG
            go_upto_if 159 with fail
            go_cut [13] (fun s13 wd => ∃ (gv : Int) (bs : List Int) (gn ge : Int) (N2 : Nat) (E2 : Int), s13 = .string (strOfNums bs) ∧ Boxes wd pb pg ⟨k, n, x, s⟩ gv gn ge ∧ RE W wd rp rv l t e ∧ Agree ⟨k, n, x, s⟩ l t e gv bs N2 E2 ∧ (e = 0 → E2 = ge ∧ gn = N2) ∧ (e ≠ 0 → E2 = e ∧ N2 = 0))
            case first =>
              by_cases he : e = 0
              · subst he
                have AD := agree_doc ⟨k, n, x, s⟩ l t HBY.out HTL.out
                rw [← HDD.out] at AD
                have HAD := Lib.hid AD
                clear AD
                go_wp2
                go_meet
                case rel => exact ⟨D.1, D.2.1, (D.2.2.1 : Int), D.2.2.2, D.2.2.1, D.2.2.2, rfl, HBD.out, HRD.out, HAD.out, fun _ => ⟨rfl, rfl⟩, fun h => absurd rfl h⟩
              · have q9 : (e != 0) = true := by simp [he]
                have g0 : wc.cell? ⟨pg, 0, none⟩ = some (.int .u64 D.1) := by rw [cell_of_row wc pg 0 _ _ _ HBD.out.got]; rfl
                have g1 : wc.cell? ⟨pg, 1, none⟩ = some (.int .i64 (D.2.2.1 : Int)) := by rw [cell_of_row wc pg 1 _ _ _ HBD.out.got]; rfl
                have g2 : wc.cell? ⟨pg, 2, none⟩ = some (.int .i64 D.2.2.2) := by rw [cell_of_row wc pg 2 _ _ _ HBD.out.got]; rfl
                have f0 : wc.frozen? ⟨pg, 0, none⟩ = false := by simp [World.frozen?, HBD.out.got]
                have f1 : wc.frozen? ⟨pg, 1, none⟩ = false := by simp [World.frozen?, HBD.out.got]
                have f2 : wc.frozen? ⟨pg, 2, none⟩ = false := by simp [World.frozen?, HBD.out.got]
                have F3 := Lib.hid (HBD.out.three (gv := 0) (gn := 0) (ge := 0) hne HRD.out HPG.out hgr)
                go_wp2
                go_meet
                case rel => exact ⟨0, [], 0, 0, 0, e, rfl, F3.out.1, F3.out.2, agree_fault _ l t e HTL.out he, fun h => absurd h he, fun _ => ⟨rfl, rfl⟩⟩
            case rest =>
              obtain ⟨gv, bs, gn, ge, N2, E2, rfl, BD2, RD2, AG, hz, hnz⟩ := hcut
              obtain ⟨wd, rfl⟩ : ∃ wd : World, wd = wc := ⟨_, rfl⟩
              have b0 : wd.cell? ⟨pb, 0, none⟩ = some (.int .i64 k) := by rw [cell_of_row wd pb 0 _ _ _ BD2.word]; rfl
              have HB2 := Lib.hid BD2
              have HR2 := Lib.hid RD2
              have HAG := Lib.hid AG
              have HZ := Lib.hid hz
              have HNZ := Lib.hid hnz
              clear BD2 RD2 AG hz hnz HBD HRD
              go_upto_block 5 with fail
              obtain ⟨STR, hSTR⟩ : ∃ S, S = strOfNums bs := ⟨_, rfl⟩
              rw [← hSTR]
              have HST := Lib.hid hSTR
              clear hSTR
              go_cut [14] (fun s14 wf => s14 = .bool true ∧ Boxes wf pb pg ⟨k, n, x, s⟩ gv gn ge ∧ RE W wf rp rv l (t + N2) E2)
              case first =>
                have b1 : wd.cell? ⟨pb, 1, none⟩ = some (.int .i64 n) := by rw [cell_of_row wd pb 1 _ _ _ HB2.out.word]; rfl
                have g0 : wd.cell? ⟨pg, 0, none⟩ = some (.int .u64 gv) := by rw [cell_of_row wd pg 0 _ _ _ HB2.out.got]; rfl
                have kd : Kept (fun _ => False) wd wd.drew := (Kept.refl _ wd).drew
                have RAD := Lib.hid (HR2.out.keptF kd)
                have CE : Hid (∀ w4 : World, Kept (fun k => k = rp) wd.drew w4 → w4.cell? ⟨pb, 1, none⟩ = some (.int .i64 n) ∧ w4.cell? ⟨pg, 0, none⟩ = some (.int .u64 gv) ∧ Boxes w4 pb pg ⟨k, n, x, s⟩ gv gn ge ∧ RE W wd.drew rp rv l t e) := by
                  show ∀ w4, _ → _
                  intro w4 hk4
                  have hk5 : Kept (fun k => k = rp) wd w4 := (kd.mono (fun _ _ x => x.elim)).trans hk4
                  have hB := HB2.out.kept hk5 hbr hgr
                  exact ⟨by rw [cell_of_row w4 pb 1 _ _ _ hB.word]; rfl, by rw [cell_of_row w4 pg 0 _ _ _ hB.got]; rfl, hB, RAD.out⟩
                have hjl : l.length ≤ 100000000000 := by have := HLL.out; omega
                have hNl : j ≤ 300 := hll
                by_cases hk0 : k = 0
                · subst hk0
                  as_aux_lemma =>
                    have q1 : ((0 : Int) == 1) = false := rfl
                    have q2 : ((0 : Int) == 2) = false := rfl
                    have q3 : ((0 : Int) == 3) = false := rfl
                    have q4 : ((0 : Int) == 4) = false := rfl
                    have q5 : ((0 : Int) == 5) = false := rfl
                    have HC := rnum_all W.heap.size rp rv l t e wd.drew RAD.out.rd hjl
                    unfold Read at HC
                    rw [HAG.out.k0 (.inl rfl)] at HC
                    simp only at HC
                    have HRC := Lib.hid HC
                    clear HC
                    go_wp2
                    go_region_with (first
                      | (go_at_call 46; refine HRC.out.mono ?_; rintro e' w6 ⟨rfl, hr6, k6⟩; obtain ⟨d1, d0, hB6, _⟩ := CE.out w6 k6)
                      | fail)
                    all_goals
                      go_wp2
                      go_meet
                      case rel => exact ⟨by first | rfl | simp, by first | exact hB6 | exact hB6.kept ((Kept.refl (fun _ => False) w6).drewN _) (fun x => x) (fun x => x), by first | exact RAD.out.took hr6 k6 | exact (RAD.out.took hr6 k6).keptF ((Kept.refl _ w6).drewN _)⟩
                · skip
                  by_cases hk1 : k = 1
                  · subst hk1
                    as_aux_lemma =>
                      have q0 : ((1 : Int) == 0) = false := rfl
                      have q2 : ((1 : Int) == 2) = false := rfl
                      have q3 : ((1 : Int) == 3) = false := rfl
                      have q4 : ((1 : Int) == 4) = false := rfl
                      have q5 : ((1 : Int) == 5) = false := rfl
                      have hrg := lookE_range l t e HBY.out
                      have HC := rint_all W.heap.size rp rv l t e wd.drew RAD.out.rd hjl
                      rw [HAG.out.k0 (.inr rfl)] at HC hrg
                      simp only at HC hrg
                      obtain ⟨hg0, hg1⟩ := hrg
                      obtain ⟨Z, hZ⟩ : ∃ Z, Z = zagI gv := ⟨_, rfl⟩
                      have HZG : Hid (∀ w, Calls Try.prog 54 #[.int .u64 gv] w fun e w' => e = .returned (.int .i64 Z) ∧ w = w') := by
                        show ∀ w, _
                        intro w; rw [hZ]; exact refZag_any gv hg0 hg1 w
                      rw [← hZ] at HC
                      clear hZ
                      have HRC := Lib.hid HC
                      clear HC
                      go_wp2
                      go_region_with (first
                        | (go_at_call 53; refine HRC.out.mono ?_; rintro e' w6 ⟨rfl, hr6, k6⟩; obtain ⟨d1, d0, hB6, _⟩ := CE.out w6 k6)
                        | (go_at_call 54; refine (HZG.out _).mono ?_; rintro e w' ⟨rfl, rfl⟩)
                        | fail)
                      all_goals
                        go_wp2
                        go_meet
                        case rel => exact ⟨by first | rfl | simp, by first | exact hB6 | exact hB6.kept ((Kept.refl (fun _ => False) w6).drewN _) (fun x => x) (fun x => x), by first | exact RAD.out.took hr6 k6 | exact (RAD.out.took hr6 k6).keptF ((Kept.refl _ w6).drewN _)⟩
                  · skip
                    by_cases hk2 : k = 2
                    · subst hk2
                      as_aux_lemma =>
                        have q0 : ((2 : Int) == 0) = false := rfl
                        have q1 : ((2 : Int) == 1) = false := rfl
                        have q3 : ((2 : Int) == 3) = false := rfl
                        have q4 : ((2 : Int) == 4) = false := rfl
                        have q5 : ((2 : Int) == 5) = false := rfl
                        have HC := rfix_all W.heap.size rp rv l t e wd.drew RAD.out.rd hjl
                        rw [HAG.out.k2 rfl] at HC
                        simp only at HC
                        have HRC := Lib.hid HC
                        clear HC
                        go_wp2
                        go_region_with (first
                          | (go_at_call 55; refine HRC.out.mono ?_; rintro e' w6 ⟨rfl, hr6, k6⟩; obtain ⟨d1, d0, hB6, _⟩ := CE.out w6 k6)
                          | fail)
                        all_goals
                          go_wp2
                          go_meet
                          case rel => exact ⟨by first | rfl | simp, by first | exact hB6 | exact hB6.kept ((Kept.refl (fun _ => False) w6).drewN _) (fun x => x) (fun x => x), by first | exact RAD.out.took hr6 k6 | exact (RAD.out.took hr6 k6).keptF ((Kept.refl _ w6).drewN _)⟩
                    · skip
                      by_cases hk3 : k = 3
                      · subst hk3
                        as_aux_lemma =>
                          have q0 : ((3 : Int) == 0) = false := rfl
                          have q1 : ((3 : Int) == 1) = false := rfl
                          have q2 : ((3 : Int) == 2) = false := rfl
                          have q4 : ((3 : Int) == 4) = false := rfl
                          have q5 : ((3 : Int) == 5) = false := rfl
                          have HC := rtext_all W.heap.size rp rv l t e n wd HR2.out.rd hjl hn.1 hn.2
                          have hk3 := HAG.out.k3 rfl
                          simp only at hk3
                          rw [hk3] at HC
                          simp only at HC
                          rw [← HST.out] at HC
                          have HRC := Lib.hid HC
                          clear HC hk3
                          go_wp2_with fail
                          refine HRC.out.mono ?_
                          rintro e' w6 ⟨rfl, hr6, k6⟩
                          have hB6 := HB2.out.kept k6 hbr hgr
                          have hR6 := HR2.out.took hr6 k6
                          go_wp2
                          go_meet
                          case rel => exact ⟨by first | rfl | simp, hB6, hR6⟩
                      · skip
                        by_cases hk4 : k = 4
                        · subst hk4
                          as_aux_lemma =>
                            have q0 : ((4 : Int) == 0) = false := rfl
                            have q1 : ((4 : Int) == 1) = false := rfl
                            have q2 : ((4 : Int) == 2) = false := rfl
                            have q3 : ((4 : Int) == 3) = false := rfl
                            have q5 : ((4 : Int) == 5) = false := rfl
                            have HC : Calls Try.prog 57 #[.pointer (some ⟨rp, 0, none⟩), .int .i64 n] wd fun e' w' => ∃ vb, e' = .returned vb ∧ (convert 29 9 vb).run Try.prog w' = .ok (.string STR) w' ∧ RdAt 88 5 w' W.heap.size rp rv l (t + N2) E2 ∧ Kept (fun k => k = rp) wd w' := by
                              have hk4 := HAG.out.k4 rfl
                              simp only at hk4
                              have h0 := rraw_all W.heap.size rp rv l t e n wd HR2.out.rd hjl
                              rw [hk4] at h0
                              refine h0.mono ?_
                              rintro e' w' ⟨vb, rfl, ho, h1, h2⟩
                              refine ⟨vb, rfl, ?_, h1, h2⟩
                              rw [HST.out]
                              exact run_str_own (P := Try.prog) ho 29 5 9 Try.underlying29 Try.underlying5 Try.underlying9
                            have HRC := Lib.hid HC
                            clear HC
                            go_wp2_with fail
                            refine HRC.out.mono ?_
                            rintro e' w6 ⟨vb, rfl, hcv, hr6, k6⟩
                            have hB6 := HB2.out.kept k6 hbr hgr
                            have hR6 := HR2.out.took hr6 k6
                            go_wp2
                            go_meet
                            case rel => exact ⟨by first | rfl | simp, hB6, hR6⟩
                        · skip
                          by_cases hk5 : k = 5
                          · subst hk5
                            as_aux_lemma =>
                              have q0 : ((5 : Int) == 0) = false := rfl
                              have q1 : ((5 : Int) == 1) = false := rfl
                              have q2 : ((5 : Int) == 2) = false := rfl
                              have q3 : ((5 : Int) == 3) = false := rfl
                              have q4 : ((5 : Int) == 4) = false := rfl
                              have HC := rcount_all W.heap.size rp rv l t e n wd.drew RAD.out.rd hjl hn.1 hn.2
                              have hrg := HAG.out.k5 rfl
                              simp only at hrg
                              rw [hrg] at HC
                              simp only at HC
                              have hg : 0 ≤ gv ∧ gv ≤ 9223372036854775807 := by
                                have h1 := lookE_range l t e HBY.out
                                unfold countF at hrg
                                split at hrg
                                · simp only [Prod.mk.injEq] at hrg; omega
                                · rename_i h2
                                  rw [hrg] at h1 h2
                                  simp only at h1 h2
                                  by_cases hE : E2 = 0
                                  · exact ⟨h1.1, by
                                      by_cases h3 : n < gv
                                      · exact absurd ⟨hE, .inr h3⟩ h2
                                      · omega⟩
                                  · have := (lookE_fault hrg hE).1; omega
                              have u1 : IntKind.u64.wrap gv = gv := wrap_u64_of _ (by omega) (by omega)
                              clear hrg hg
                              have HRC := Lib.hid HC
                              clear HC
                              go_wp2
                              go_region_with (first
                                | (go_at_call 58; refine HRC.out.mono ?_; rintro e' w6 ⟨rfl, hr6, k6⟩; obtain ⟨d1, d0, hB6, _⟩ := CE.out w6 k6)
                                | fail)
                              all_goals
                                go_wp2
                                go_meet
                                case rel => exact ⟨by first | rfl | simp, by first | exact hB6 | exact hB6.kept ((Kept.refl (fun _ => False) w6).drewN _) (fun x => x) (fun x => x), by first | exact RAD.out.took hr6 k6 | exact (RAD.out.took hr6 k6).keptF ((Kept.refl _ w6).drewN _)⟩
                          · skip
                            have q0 : (k == 0) = false := by simp [hk0]
                            have q1 : (k == 1) = false := by simp [hk1]
                            have q2 : (k == 2) = false := by simp [hk2]
                            have q3 : (k == 3) = false := by simp [hk3]
                            have q4 : (k == 4) = false := by simp [hk4]
                            have q5 : (k == 5) = false := by simp [hk5]
                            obtain ⟨h1, h2⟩ := HAG.out.other hk0 hk1 hk2 hk3 hk4 hk5
                            have HH : Hid (RE W wd rp rv l (t + N2) E2) := by show RE _ _ _ _ _ _ _; rw [h1, h2]; exact HR2.out
                            go_wp2
                            go_meet
                            case rel => exact ⟨rfl, HB2.out, HH.out⟩
              case rest =>
                obtain ⟨rfl, BF, RF⟩ := hcut
                obtain ⟨wf, rfl⟩ : ∃ wf : World, wf = wc := ⟨_, rfl⟩
                as_aux_lemma =>
                have htk := HAG.out.taken
                obtain ⟨T2, hT2⟩ : ∃ T2, T2 = t + N2 := ⟨_, rfl⟩
                rw [← hT2] at RF htk
                have hTj : T2 ≤ j := by have := HLL.out; omega
                have g1 : wf.cell? ⟨pg, 1, none⟩ = some (.int .i64 gn) := by rw [cell_of_row wf pg 1 _ _ _ BF.got]; rfl
                have g2 : wf.cell? ⟨pg, 2, none⟩ = some (.int .i64 ge) := by rw [cell_of_row wf pg 2 _ _ _ BF.got]; rfl
                have HER := Lib.hid (err_any W.heap.size rp rv l T2 E2 wf RF.rd)
                have HAT := Lib.hid (at_any W.heap.size rp rv l T2 E2 wf RF.rd)
                have hlf := left_any W.heap.size rp rv l T2 E2 wf RF.rd (by have := HLL.out; omega)
                rw [← HLL.out] at hlf
                obtain ⟨R2, hR2⟩ : ∃ R2, R2 = j - T2 := ⟨_, rfl⟩
                have r1 : (j : Int) - (T2 : Int) = (R2 : Int) := by omega
                have r2 : IntKind.i64.wrap (R2 : Int) = (R2 : Int) := IntWalk.i64_in _ ⟨by omega, by omega⟩
                rw [r1] at hlf
                have HLF := Lib.hid hlf
                have HRF := Lib.hid RF
                clear BF RF hlf hR2
                by_cases he : e = 0
                · obtain ⟨h1, h2⟩ := HZ.out he
                  subst he; subst h1; subst h2
                  have t1 : (t : Int) + (N2 : Int) = (T2 : Int) := by omega
                  have t2 : IntKind.i64.wrap (T2 : Int) = (T2 : Int) := IntWalk.i64_in _ ⟨by omega, by omega⟩
                  clear hT2 htk
                  go_wp2_with (first
                    | (go_at_call 48; refine HER.out.mono ?_; rintro e w' ⟨rfl, rfl⟩)
                    | (go_at_call 49; refine HAT.out.mono ?_; rintro e w' ⟨rfl, rfl⟩)
                    | (go_at_call 50; refine HLF.out.mono ?_; rintro e w' ⟨rfl, q, rfl⟩))
                  go_roundg (rs.length - (i + 1))
                  case measure => have := HD.out; omega
                  case rel => exact ⟨i + 1, HD.out, rfl, by go_num, T2, _, rfl, rfl, hTj, HRF.out.keptF ((Kept.refl _ wf).drewN _)⟩
                · obtain ⟨h1, h2⟩ := HNZ.out he
                  subst h1; subst h2
                  have q9 : (E2 == 0) = false := by simp [he]
                  obtain rfl : T2 = t := by omega
                  clear hT2 htk
                  go_wp2_with (first
                    | (go_at_call 48; refine HER.out.mono ?_; rintro e w' ⟨rfl, rfl⟩)
                    | (go_at_call 49; refine HAT.out.mono ?_; rintro e w' ⟨rfl, rfl⟩)
                    | (go_at_call 50; refine HLF.out.mono ?_; rintro e w' ⟨rfl, q, rfl⟩))
                  go_roundg (rs.length - (i + 1))
                  case measure => have := HD.out; omega
                  case rel => exact ⟨i + 1, HD.out, rfl, by go_num, T2, _, rfl, rfl, hTj, HRF.out.keptF ((Kept.refl _ wf).drewN _)⟩
        · obtain rfl : i = rs.length := by omega
          go_wp2
          go_ret
          exact ⟨rfl, R.kept⟩
end Go.Proofs.Ytanhdjdojeoodaa
