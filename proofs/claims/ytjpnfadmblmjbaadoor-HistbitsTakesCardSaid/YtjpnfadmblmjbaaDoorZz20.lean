/- Texts put together: Z43, Z44. -/
import Derived.Test.YtjpnfadmblmjbaaDoorZz19
import Derived.Test.YtjpnfadmblmjbaaDoorZz7
import Derived.Deep.CutBlock
/- Layer 10: what lies in memory while a row is taken and put anew. -/
namespace Go.Proofs.YtjpnfadmblmjbaaDoor
open Go.RowKit

/-- A reader and its row behind t1 bits and i1 histograms (the last one g1), a writer and its row with the bits b2 and i2 histograms (the last one g2), the bits as numbers, the histograms that were taken. -/
structure TK (W w : World) (X pr rx pw ry : Nat) (rv : Value) (bs : List Bool) (lv rowv : Value) (t1 i1 : Nat) (g1 : HistV) (b2 : List Bool) (i2 : Nat) (g2 : HistV) (Hs : List HP) : Prop where
  rd : ∃ gp gn, HRd W w pr rx rv bs t1 i1 g1 gp gn
  wr : ∃ vw gp gn, HB W w pw ry vw b2 i2 g2 gp gn ∧ (∀ k, vw.ownBlock = some k → X ≤ k)
  row : MineH W w rowv Hs
  bits : Mine W w 3 lv (ints bs)
  hs : ∀ P ∈ Hs, OwnU W w P.pv P.h.pl ∧ OwnU W w P.nv P.h.nl ∧ P.h.ok ∧ P.h.err = 0
  old : pr < X ∧ rx < X ∧ (∀ k, rv.ownBlock = some k → k < X) ∧ X ≤ pw ∧ X ≤ ry
section
variable {W w w' : World} {X pr rx pw ry t1 i1 i2 t' i' : Nat} {rv lv rowv rowv' vw : Value} {bs b2 b' : List Bool} {g1 g2 g' : HistV} {Hs : List HP} {P : HP} {S : Nat → Prop}
theorem ownU_blk {v : Value} {l : List Nat} (o : OwnU W w v l) (k : Kept S w w') (b : Blk W w S 28) : OwnU W w' v l := o.kept k (fun j e s => b.own o j e s)
theorem HRd.blkU {v pv nv : Value} {n p r t : Nat} {h : HistV} (x : HRd W w p r v bs t n h pv nv) (k : Kept S w w') (h1 : ¬ S p) (h2 : ∀ j, v.ownBlock = some j → ¬ S j) (h3 : ¬ S r) (b : Blk W w S 28) : HRd W w' p r v bs t n h pv nv :=
  ⟨x.br.kept k h1 h2, x.row.same k h3, x.mp.blk k b, x.mn.blk k b, x.rb⟩
theorem HB.blkU {v pv nv : Value} {n p r : Nat} {h : HistV} (x : HB W w p r v bs n h pv nv) (k : Kept S w w') (h1 : ¬ S p) (h2 : ∀ j, v.ownBlock = some j → ¬ S j) (h3 : ¬ S r) (b : Blk W w S 28) : HB W w' p r v bs n h pv nv :=
  ⟨x.bw.kept k h1 h2, x.row.same k h3, x.mp.blk k b, x.mn.blk k b, x.rb⟩
theorem TK.on (T : TK W w X pr rx pw ry rv bs lv rowv t1 i1 g1 b2 i2 g2 Hs) (k : Kept (fun _ => False) w w') : TK W w' X pr rx pw ry rv bs lv rowv t1 i1 g1 b2 i2 g2 Hs := by
  obtain ⟨⟨gp, gn, rd⟩, ⟨vw, hp, hn, wr, hw⟩, row, bits, hs, old⟩ := T
  exact ⟨⟨gp, gn, rd.on k⟩, ⟨vw, hp, hn, wr.on k, hw⟩, row.on k, bits.on k, fun P hP => ⟨(hs P hP).1.kept k (fun _ _ x => x), (hs P hP).2.1.kept k (fun _ _ x => x), (hs P hP).2.2⟩, old⟩
theorem TK.kept (T : TK W w X pr rx pw ry rv bs lv rowv t1 i1 g1 b2 i2 g2 Hs) : Kept (fun _ => False) W w := T.bits.kept
/-- The reader went on. -/
theorem TK.rdTo (T : TK W w X pr rx pw ry rv bs lv rowv t1 i1 g1 b2 i2 g2 Hs) {gp gn : Value} (x : HRd W w' pr rx rv bs t' i' g' gp gn) (k : Kept (fun k => k = pr ∨ k = rx) w w') : TK W w' X pr rx pw ry rv bs lv rowv t' i' g' b2 i2 g2 Hs := by
  obtain ⟨⟨gp1, gn1, rd⟩, ⟨vw, hp, hn, wr, hw⟩, row, bits, hs, old⟩ := T
  have hb : ∀ E, 88 ≠ E → 97 ≠ E → Blk W w (fun k => k = pr ∨ k = rx) E := by
    rintro E h1 h2 j (rfl | rfl)
    · exact ⟨rd.br.base, _, _, _, rd.br.box, h1⟩
    · exact ⟨rd.rb, _, _, _, rd.row, h2⟩
  have bU := hb 28 (by decide) (by decide)
  refine ⟨⟨gp, gn, x⟩, ⟨vw, hp, hn, wr.blkU k ?_ ?_ ?_ bU, hw⟩, row.blk k (hb _ (by decide) (by decide)), bits.blk k (hb _ (by decide) (by decide)), fun P hP => ⟨ownU_blk (hs P hP).1 k bU, ownU_blk (hs P hP).2.1 k bU, (hs P hP).2.2⟩, old⟩
  · rintro (e | e)
    · have := old.1; have := old.2.2.2.1; omega
    · have := old.2.1; have := old.2.2.2.1; omega
  · intro j e
    have h := hw j e
    rintro (e | e)
    · have := old.1; omega
    · have := old.2.1; omega
  · rintro (e | e)
    · have := old.1; have := old.2.2.2.2; omega
    · have := old.2.1; have := old.2.2.2.2; omega
/-- One more histogram. -/
theorem TK.rowTo (T : TK W w X pr rx pw ry rv bs lv rowv t1 i1 g1 b2 i2 g2 Hs) (hp : OwnU W w P.pv P.h.pl ∧ OwnU W w P.nv P.h.nl ∧ P.h.ok ∧ P.h.err = 0) (m : MineH W w' rowv' (Hs ++ [P])) (k : Kept (fun k => rowv.ownBlock = some k) w w') :
    TK W w' X pr rx pw ry rv bs lv rowv' t1 i1 g1 b2 i2 g2 (Hs ++ [P]) := by
  obtain ⟨⟨gp1, gn1, rd⟩, ⟨vw, hp1, hn1, wr, hw⟩, row, bits, hs, old⟩ := T
  have hb : ∀ E, 62 ≠ E → Blk W w (fun k => rowv.ownBlock = some k) E := fun E h => Blk.of row.own h
  have bU := hb 28 (by decide)
  refine ⟨⟨gp1, gn1, rd.blkU k ((hb _ (by decide)).ne rd.br.box) ((hb _ (by decide)).own rd.br.owns) ((hb _ (by decide)).ne rd.row) bU⟩, ⟨vw, hp1, hn1, wr.blkU k ((hb _ (by decide)).ne wr.bw.box) ((hb _ (by decide)).own wr.bw.owns) ((hb _ (by decide)).ne wr.row) bU, hw⟩, m, bits.blk k (hb _ (by decide)), ?_, old⟩
  intro Q hQ
  rcases List.mem_append.1 hQ with hQ | hQ
  · exact ⟨ownU_blk (hs Q hQ).1 k bU, ownU_blk (hs Q hQ).2.1 k bU, (hs Q hQ).2.2⟩
  · rw [List.mem_singleton] at hQ
    subst hQ
    exact ⟨ownU_blk hp.1 k bU, ownU_blk hp.2.1 k bU, hp.2.2⟩
/-- The writer went on. -/
theorem TK.wrTo (T : TK W w X pr rx pw ry rv bs lv rowv t1 i1 g1 b2 i2 g2 Hs) {hp hn : Value} (x : HB W w pw ry vw b2 i2 g2 hp hn) (hvw : ∀ k, vw.ownBlock = some k → X ≤ k) (p : PutTo W w w' pw ry vw b' i' g') : TK W w' X pr rx pw ry rv bs lv rowv t1 i1 g1 b' i' g' Hs := by
  obtain ⟨⟨gp1, gn1, rd⟩, _, row, bits, hs, old⟩ := T
  obtain ⟨v', pv', nv', y, hv', k⟩ := p
  have hb : ∀ E, 80 ≠ E → 97 ≠ E → 5 ≠ E → Blk W w (fun k => k = pw ∨ k = ry ∨ vw.ownBlock = some k) E := fun E h1 h2 h3 => x.blkPut h1 h2 h3
  have bU := hb 28 (by decide) (by decide) (by decide)
  have hX : X ≤ w.heap.size := by have := (Array.getElem?_eq_some_iff.1 x.bw.box).1; have := old.2.2.2.1; omega
  refine ⟨⟨gp1, gn1, rd.blkU k ?_ ?_ ?_ bU⟩, ⟨v', pv', nv', y, ?_⟩, row.blk k (hb _ (by decide) (by decide) (by decide)), bits.blk k (hb _ (by decide) (by decide) (by decide)), fun P hP => ⟨ownU_blk (hs P hP).1 k bU, ownU_blk (hs P hP).2.1 k bU, (hs P hP).2.2⟩, old⟩
  · rintro (e | e | e)
    · have := old.1; have := old.2.2.2.1; omega
    · have := old.1; have := old.2.2.2.2; omega
    · have := hvw _ e; have := old.1; omega
  · intro j e
    have h := old.2.2.1 j e
    rintro (e | e | e)
    · have := old.2.2.2.1; omega
    · have := old.2.2.2.2; omega
    · have := hvw _ e; omega
  · rintro (e | e | e)
    · have := old.2.1; have := old.2.2.2.1; omega
    · have := old.2.1; have := old.2.2.2.2; omega
    · have := hvw _ e; have := old.2.1; omega
  · intro j e
    rcases hv' with h | ⟨g, h, hg⟩
    · rw [h] at e; exact hvw j e
    · rw [h] at e; cases e; omega
/-- Counts that were got lie apart from the writer. -/
theorem apart_own {v pv nv : Value} {h : HistV} {gp gn : Value} (x : HB W w pw ry v b2 i2 g2 gp gn) (o1 : OwnU W w pv h.pl) (o2 : OwnU W w nv h.nl) : Apart pw v h pv nv := by
  have hb : Blk W w (fun k => k = pw ∨ k = ry ∨ v.ownBlock = some k) 28 := x.blkPut (by decide) (by decide) (by decide)
  intro k hk
  have hs : (fun k => k = pw ∨ k = ry ∨ v.ownBlock = some k) k := by rcases hk with e | e; exact .inl e; exact .inr (.inr e)
  exact ⟨fun _ e => hb.own o1 k e hs, fun _ e => hb.own o2 k e hs⟩
theorem TK.hin (T : TK W w X pr rx pw ry rv bs lv rowv t1 i1 g1 b2 i2 g2 Hs) : ∀ P ∈ Hs, HistAt w P.h P.pv P.nv ∧ P.h.ok ∧ P.h.pl.length ≤ 160 ∧ P.h.nl.length ≤ 160 := fun P hP => ⟨⟨(T.hs P hP).1.at_, (T.hs P hP).2.1.at_⟩, (T.hs P hP).2.2.1, err_lens (T.hs P hP).2.2.2⟩
theorem TK.last (T : TK W w X pr rx pw ry rv bs lv rowv t1 i1 g1 b2 i2 g2 Hs) : (lastH Hs).ok ∧ (lastH Hs).pl.length ≤ 160 ∧ (lastH Hs).nl.length ≤ 160 := lastH_fit (fun P hP => (T.hs P hP).2.2)
end
end Go.Proofs.YtjpnfadmblmjbaaDoor
/- Layer 10: the walk of 'HistbitsTakes' (written by tools/gen_XZ44.py). -/
namespace Go.Proofs.YtjpnfadmblmjbaaDoor
open Go.RowKit
attribute [local go_sem ↓] Go.wp_at_zero Go.wp_at_succ

theorem openE_all10 (l : List Nat) : openE l ((8 * l.length : Nat) : Int) = 0 := by have := openE_full l; rw [show ((8 * l.length : Nat) : Int) = 8 * (l.length : Int) by omega]; exact this
theorem down10 {w : World} {B B' p : Nat} {v : Value} {bs : List Bool} {t : Nat} (h : BrAt w B p v bs t) (hB : B' ≤ B) : BrAt w B' p v bs t := by
  refine ⟨Nat.le_trans hB h.base, h.box, ⟨h.owns.1, ?_⟩, h.apart, h.taken⟩
  rcases h.owns.2 with h0 | ⟨g, cap, cur, e, hg, rest⟩
  · exact .inl h0
  · exact .inr ⟨g, cap, cur, e, Nat.le_trans hB hg, rest⟩

set_option maxHeartbeats 16000000 in
set_option maxRecDepth 100000 in
theorem takes10_walk0 (ao : Option Addr) (ca : Nat) (l : List Nat) (n : Nat) (W : World) (hv : SlAt W (.slice ao l.length ca) (bys l)) (hl : l.length ≤ 120) (hb : ∀ x ∈ l, x < 256) (hn : n ≤ 30) (HT : ClassTab W) :
    Calls Tryd.prog 8 #[.slice ao l.length ca, .int .i64 n] W fun e w' => e = .returned (.bool true) ∧ Kept (fun _ => False) W w' := by
  obtain ⟨iI, hiI, hzI0, hzI1, hzI2⟩ := info_parts Tryd.infoInt
  have hW0 : 0 < W.heap.size := World.block_lt_of_cell? W _ (HT 0 (by omega))
  have HAW := Lib.hid (awake10_any W HT hW0)
  have HTT := Lib.hid HT
  have HW0 := Lib.hid hW0
  have q60 : ¬ (120 : Int) < (l.length : Int) := by omega
  have q60b : decide (120 < l.length) = false := decide_eq_false (by omega)
  have q61 : ¬ (n : Int) < 0 := by omega
  have q62 : ¬ (30 : Int) < (n : Int) := by omega
  have q62b : decide (30 < n) = false := decide_eq_false (by omega)
  have HOP := Lib.hid fun w' (h : Kept (fun _ => False) W w') => bopen_yes _ l (8 * l.length) w' (hv.kept h (fun _ _ x => x)) (by omega) hb (openE_all10 l)
  have HBT := Lib.hid fun w' (h : Kept (fun _ => False) W w') => refBits_any _ l w' (hv.kept h (fun _ _ x => x)) (by omega) hb
  rw [show (bitsOf l).take (8 * l.length) = bitsOf l from List.take_of_length_le (by rw [bitsOf_length]; exact Nat.le_refl _)] at HOP
  have hbl := bitsOf_length l
  obtain ⟨bs, hbs⟩ : ∃ bs, bs = bitsOf l := ⟨_, rfl⟩
  rw [← hbs] at HOP HBT hbl
  obtain ⟨Nb, hN⟩ : ∃ N, N = 8 * l.length := ⟨_, rfl⟩
  have n1 : 8 * (l.length : Int) = (Nb : Int) := by omega
  have n2 : IntKind.i64.wrap (8 * (l.length : Int)) = (Nb : Int) := by rw [n1]; exact IntWalk.i64_in _ ⟨by omega, by omega⟩
  rw [← hN] at HOP hbl
  have HBL := Lib.hid hbl
  have HNN := Lib.hid (show Nb ≤ 960 by omega)
  have HNS := Lib.hid hn
  clear HT hv hb hbs hN hbl hW0
  go_enter Tryd.func8, Tryd.ntmps8
  go_wp2_with fail
  refine HAW.out.mono ?_
  rintro e w0 ⟨rfl, k0⟩
  have K0 := Lib.hid k0
  clear k0
  go_wp2_with fail
  refine (HOP.out _ K0.out).mono ?_
  rintro e w1 ⟨pr, rv, rfl, hr, k1⟩
  have K1 := Lib.hid (K0.out.trans k1)
  have HR := Lib.hid (down10 hr (Kept.size K0.out))
  clear hr k1
  go_wp2_with fail
  refine (HBT.out _ K1.out).mono ?_
  rintro e w2 ⟨lv, rfl, ho, k2⟩
  obtain ⟨lo, lc, rfl⟩ := ownsRow_slice ho
  have hcap := own_cap ho
  have hm : Mine W w2 3 (.slice lo (ints bs).length lc) (ints bs) := (Mine.ofFresh ho k2).down K1.out
  rw [ints_length] at hm hcap
  rw [ints_length]
  have HM := Lib.hid (show Mine W w2 3 (.slice lo bs.length lc) (ints bs) from hm)
  have HR2 := Lib.hid (HR.out.keptF k2)
  rw [HBL.out] at HM hcap ⊢
  clear ho k2 hm
  go_wp2_with fail
  refine (hnewRow_any w2).mono ?_
  rintro e w3 ⟨rfl, hx3, k3⟩
  obtain ⟨rx, hrx⟩ : ∃ r, r = w2.heap.size := ⟨_, rfl⟩
  rw [← hrx] at hx3 ⊢
  have hrxW : W.heap.size ≤ rx := by have := HM.out.kept.size; omega
  clear hrx
  go_wp2_with fail
  refine (hnewRow_any w3).mono ?_
  rintro e w4 ⟨rfl, hy4, k4⟩
  obtain ⟨X, hXX⟩ : ∃ x, x = w3.heap.size := ⟨_, rfl⟩
  obtain ⟨ry, hry⟩ : ∃ r, r = w3.heap.size := ⟨_, rfl⟩
  have hold : pr < X ∧ rx < X ∧ (∀ k, rv.ownBlock = some k → k < X) := ⟨by rw [hXX]; exact (Array.getElem?_eq_some_iff.1 (HR2.out.keptF k3).box).1, by rw [hXX]; exact hx3.lt, fun k e => by rw [hXX]; exact (ownsRow_lt (HR2.out.keptF k3).owns e).1⟩
  have hryX : X ≤ ry := by omega
  have hX4 : X ≤ w4.heap.size := by have := k4.size; omega
  have hryW : W.heap.size ≤ ry := by have := HM.out.kept.size; have := k3.size; omega
  rw [← hry] at hy4 ⊢
  clear hry hXX
  go_wp2_with fail
  refine (bnew_any w4).mono ?_
  rintro e w5 ⟨rfl, hw5⟩
  have k34 := (HM.out.kept.trans k3).trans k4
  have H0 := bnew_at W.heap.size w4 k34.size
  rw [← hw5] at H0
  have k5 : Kept (fun _ => False) w4 w5 := by rw [hw5]; exact (Kept.refl _ _).alloc _
  obtain ⟨pw, hpw⟩ : ∃ p, p = w4.heap.size := ⟨_, rfl⟩
  have hpwX : X ≤ pw := by rw [hpw]; exact hX4
  rw [← hpw] at H0 ⊢
  have kW : Kept (fun _ => False) W w5 := k34.trans k5
  have HTK0 := Lib.hid (show TK W w5 X pr rx pw ry rv bs (.slice lo Nb lc) (.slice none 0 0) 0 0 (lastH []) (bs.take 0) 0 (lastH []) [] from
    ⟨⟨.slice none 0 0, .slice none 0 0, ((HR2.out.keptF k3).keptF k4).keptF k5, (hx3.same k4 (fun x => x)).same k5 (fun x => x), Mine.nil' _ kW, Mine.nil' _ kW, hrxW⟩,
     ⟨.slice none 0 0, .slice none 0 0, .slice none 0 0, ⟨H0, hy4.same k5 (fun x => x), Mine.nil' _ kW, Mine.nil' _ kW, hryW⟩, fun k e => by cases e⟩,
     MineH.nil' kW, HM.out.on ((k3.trans k4).trans k5), fun P hP => (by cases hP), ⟨hold.1, hold.2.1, hold.2.2, hpwX, hryX⟩⟩)
  clear hw5 hpw k34 k5 kW H0 hx3 hy4 k3 k4 hrxW hryW hold hryX hpwX hX4 HM HR2 HR
  go_upto_block 0 with fail
  go_cut [11, 12] (fun s11 s12 wc => ∃ (t : Nat) (Hs : List HP), s12 = .int .i64 t ∧ TK W wc X pr rx pw ry rv bs (.slice lo Nb lc) s11 t Hs.length (lastH Hs) (bs.take t) Hs.length (lastH Hs) Hs ∧ t ≤ bs.length)
  case first =>
    go_wp2
    go_loopg [11, 12, 13] n (fun g s11 s12 s13 wr => ∃ (t : Nat) (Hs : List HP), Hs.length ≤ n ∧ g = n - Hs.length ∧ s13 = .int .i64 Hs.length ∧ s12 = .int .i64 t ∧ TK W wr X pr rx pw ry rv bs (.slice lo Nb lc) s11 t Hs.length (lastH Hs) (bs.take t) Hs.length (lastH Hs) Hs ∧ t ≤ bs.length)
    case atStart => exact ⟨0, [], Nat.zero_le _, rfl, rfl, rfl, HTK0.out, Nat.zero_le _⟩
    case round =>
      obtain ⟨t, Hs, hil, rfl, rfl, rfl, htk, htl⟩ := hrel
      have HI := Lib.hid htk
      have HTL := Lib.hid htl
      clear htk HTK0
      obtain ⟨ra, rc, esv⟩ := HI.out.row.slice
      subst esv
      obtain ⟨m, hm⟩ : ∃ m, m = Hs.length := ⟨_, rfl⟩
      have HMM := Lib.hid hm
      by_cases hd : m < n
      · have hdi : (m : Int) < (n : Int) := by omega
        have HD := Lib.hid hd
        have wi : IntKind.i64.wrap ((m : Int) + 1) = ((m + 1 : Nat) : Int) := by rw [IntWalk.i64_in _ ⟨by omega, by have := HNS.out; omega⟩]; omega
        obtain ⟨Tn, hT⟩ : ∃ Tn, Tn = Nb - t := ⟨_, rfl⟩
        have htN : t ≤ Nb := by have := HBL.out; omega
        have hct := HI.out.bits.at_.cutL (lo := t) htN hcap
        have hbk : (Value.slice (if lc = t then lo else lo.map (·.add t)) Tn (lc - t)).ownBlock = (Value.slice lo Nb lc).ownBlock := cut_block _ _ _ _ _ _ _
        obtain ⟨ao2, hao2⟩ : ∃ a : Option Addr, a = if lc = t then lo else lo.map (·.add t) := ⟨_, rfl⟩
        rw [← hao2] at hbk
        rw [← hao2, ← hT] at hct
        have s1 : ∀ w, (Instr.slice 26 (.slice lo Nb lc) (some (.int .i64 (t : Int))) none none).run Tryd.prog w = .ok (.slice ao2 Tn (lc - t)) w := fun w => by
          have := run_cutL (P := Tryd.prog) Tryd.underlying26 hiI hzI1 lo Nb lc t htN w
          rw [← hao2, ← hT] at this; exact this
        have s2 : ∀ w, (Instr.sliceAt 26 (.slice lo Nb lc) (some (.int .i64 (t : Int))) none none).run Tryd.prog w = .ok (.slice ao2 Tn (lc - t)) w := fun w => by
          have := run_cutLAt (P := Tryd.prog) Tryd.underlying26 hiI hzI1 lo Nb lc t htN w
          rw [← hao2, ← hT] at this; exact this
        have hbx : (ints bs).drop t = ints (bs.drop t) := by unfold ints; rw [List.map_drop]
        rw [hbx] at hct
        have hdl : (bs.drop t).length = Tn := by rw [List.length_drop, HBL.out]; exact hT.symm
        obtain ⟨cx, hcx⟩ : ∃ c, c = lc - t := ⟨_, rfl⟩
        rw [← hcx] at hct s1 s2 hbk
        have hTc : Tn ≤ cx := by omega
        clear hcx
        have hlast := HI.out.last
        have HDG := refGet10_any ra rc Hs ao2 cx (bs.drop t) wr HI.out.row.at_ (by have := HNS.out; omega) HI.out.hin (by rw [hdl]; exact hct) (fun k e => by rw [hdl, hbk] at e; exact (ownsRow_lt HI.out.bits.own e).1) (by rw [hdl]; exact hTc) (by rw [hdl]; have := HNN.out; omega)
        have hgl := gotH_lens Hs.length (lastH Hs) (bs.drop t) hlast.2
        have HDE := docG_got Hs.length (lastH Hs) (bs.drop t)
        rw [hdl] at HDG
        rw [← hm] at HDG HDE hgl
        obtain ⟨Gt, hG⟩ : ∃ Gt, Gt = gotH m (lastH Hs) (bs.drop t) := ⟨_, rfl⟩
        have HGET := Lib.hid fun w' (T : TK W w' X pr rx pw ry rv bs (.slice lo Nb lc) (.slice ra m rc) t m (lastH Hs) (bs.take t) m (lastH Hs) Hs) => (show ∃ vg gp gn, HRd W w' pr rx rv bs t m (lastH Hs) gp gn ∧ Calls Tryd.prog 43 #[.pointer (some ⟨rx, 0, none⟩), .pointer (some ⟨pr, 0, none⟩)] w' (GetTo W w' pr rx rv bs t m Gt) from by
          obtain ⟨gp, gn, hrd⟩ := T.rd
          exact ⟨gp, gp, gn, hrd, hget_any W w' pr rx m rv gp gn (lastH Hs) bs t hrd HW0.out (by have := HBL.out; have := HNN.out; omega) HTT.out hlast.1 hlast.2.1 hlast.2.2 (by have := HNS.out; omega) Gt hG (by rw [hG]; exact hgl.1) (by rw [hG]; exact hgl.2)⟩)
        have HFIT := Lib.hid fun (h : HistV) (N : Nat) (e : Gt = (h, N, 0)) => gotH_fit (n := m) (g := lastH Hs) (h := h) (l := bs.drop t) (N := N) hlast (hG.symm.trans e)
        rw [← hG] at HDE
        rw [HDE] at HDG
        have HDG := Lib.hid HDG
        have HLA := Lib.hid hlast
        have HDL := Lib.hid hdl
        clear hTc hG hgl HDE hT hct hbk hao2 hbx hdl hlast hd
        obtain ⟨GH, GN, GE⟩ := Gt
        by_cases hE : GE = 0
        · subst hE
          obtain ⟨gok, gerr, gnx, gle, _⟩ := HFIT.out GH GN rfl
          have hee : errG (GH, GN, 0) = (GH, GN, 0) := if_neg (fun e => e rfl)
          rw [hee] at HDG
          obtain ⟨t2, ht2⟩ : ∃ t2, t2 = t + GN := ⟨_, rfl⟩
          have ht2l : t2 ≤ bs.length := by rw [List.length_drop] at gle; omega
          have a2 : IntKind.i64.wrap ((t : Int) + (GN : Int)) = (t2 : Int) := by have := HNN.out; have := HBL.out; rw [IntWalk.i64_in _ ⟨by omega, by omega⟩]; omega
          have htk2 : bs.take t2 = bs.take t ++ nextH m (lastH Hs) GH := by rw [ht2, List.take_add, gnx]
          have HT2 := Lib.hid (And.intro ht2 ht2l)
          have HTK2 := Lib.hid htk2
          have et : ((t2 : Int) != (t2 : Int)) = false := bneF rfl
          have e0 : ((0 : Int) != (0 : Int)) = false := bneF rfl
          have hfl := err_lens gerr
          have HGF := Lib.hid (And.intro gok (And.intro gerr hfl))
          have HSAM := Lib.hid fun w' p1 n1 p2 n2 (k1 : HistAt w' GH p1 n1) (k2 : HistAt w' GH p2 n2) => refSame_any GH GH p1 n1 p2 n2 w' k1 k2 (by omega) (by omega)
          rw [decide_eq_true ((sameH_iff GH GH).mpr rfl)] at HSAM
          clear gok gerr gnx gle hee ht2 ht2l htk2 hfl HFIT
          obtain ⟨fsc, fze, fpo, fpl, fno, fnl⟩ := GH
          unfold histV at HSAM
          dsimp only at HSAM
          rw [← hm]
          clear hm htl
          have HIR := Lib.hid (show pr < wr.heap.size ∧ rx < wr.heap.size from by obtain ⟨_, _, hrd⟩ := HI.out.rd; exact ⟨(Array.getElem?_eq_some_iff.1 hrd.br.box).1, hrd.row.lt⟩)
          go_wp2_with fail
          refine HDG.out.mono ?_
          rintro e w7 ⟨pd, nd, rfl, hda, hnc, k7⟩
          unfold got10V
          obtain ⟨⟨da, dc, rfl⟩, db, dd, rfl⟩ := hda.sl
          dsimp only at hda ⊢
          have HT7 := Lib.hid (show TK W w7 X pr rx pw ry rv bs (.slice lo Nb lc) (.slice ra m rc) t m (lastH Hs) (bs.take t) m (lastH Hs) Hs from by have := HI.out.on k7; rw [← HMM.out] at this; exact this)
          obtain ⟨w8, hw8⟩ : ∃ w', w' = w7.alloc (.cells #[.int .i64 fsc, .int .u64 (fze : Int), .int .i64 fpo, .slice da fpl.length dc, .int .i64 fno, .slice db fnl.length dd, .int .i64 (GN : Int), .int .i64 0] 75) := ⟨_, rfl⟩
          have k8 : Kept (fun _ => False) w7 w8 := by rw [hw8]; exact (Kept.refl _ _).alloc _
          obtain ⟨qd, hqd⟩ : ∃ q, q = w7.heap.size := ⟨_, rfl⟩
          have HQD := Lib.hid (show w8.heap[qd]? = some (.cells #[.int .i64 fsc, .int .u64 (fze : Int), .int .i64 fpo, .slice da fpl.length dc, .int .i64 fno, .slice db fnl.length dd, .int .i64 (GN : Int), .int .i64 0] 75 (0, 0)) by rw [hw8, hqd]; exact heap_alloc_new w7 _)
          have HT8 := Lib.hid (HT7.out.on k8)
          have HDA := Lib.hid (show HistAt w8 ⟨fsc, fze, fpo, fpl, fno, fnl⟩ (.slice da fpl.length dc) (.slice db fnl.length dd) from hda.on k8)
          have HW8 := Lib.hid hw8
          have HDB := Lib.hid (show (∀ k, (Value.slice da fpl.length dc : Value).ownBlock = some k → ¬ (k = pr ∨ k = rx)) ∧ (∀ k, (Value.slice db fnl.length dd : Value).ownBlock = some k → ¬ (k = pr ∨ k = rx)) from by have h1 := HIR.out; exact ⟨fun k e e2 => by have := hnc k (.inl e); rcases e2 with e2 | e2 <;> omega, fun k e e2 => by have := hnc k (.inr e); rcases e2 with e2 | e2 <;> omega⟩)
          clear hda hnc k7 k8 hw8
          go_upto_region 17 with fail
          rw [← HW8.out, ← hqd]
          clear hqd
          obtain ⟨_, gpx, gnx, hrx, hcall⟩ := HGET.out w8 HT8.out
          have HRX := Lib.hid hrx
          have HCALL := Lib.hid hcall
          clear hrx hcall
          go_wp2_with fail
          refine HCALL.out.mono ?_
          rintro e w9 hq
          obtain ⟨pv, nv, rfl, o1, o2, p', n', hrd, hkr, _⟩ : ∃ pv nv, e = .returned (.tuple #[histV ⟨fsc, fze, fpo, fpl, fno, fnl⟩ pv nv, .int .i64 0]) ∧ OwnU w8 w9 pv fpl ∧ OwnU w8 w9 nv fnl ∧ ∃ p' n', HRd W w9 pr rx rv bs (t + GN) (m + 1) ⟨fsc, fze, fpo, fpl, fno, fnl⟩ p' n' ∧ Kept (fun k => k = pr ∨ k = rx) w8 w9 ∧ (∀ k, pv.ownBlock = some k → p'.ownBlock ≠ some k ∧ n'.ownBlock ≠ some k) := by
            rcases hq with ⟨h, _⟩ | ⟨_, h⟩
            · exact absurd rfl h
            · exact h
          rw [← HT2.out.1] at hrd
          obtain ⟨ab2, cb2, rfl⟩ := o1.slice
          obtain ⟨an2, cn2, rfl⟩ := o2.slice
          unfold histV
          dsimp only
          have HT9 := Lib.hid (HT8.out.rdTo hrd hkr)
          have hne : ∀ j, (w8.heap[j]? = some (.cells #[.int .i64 fsc, .int .u64 (fze : Int), .int .i64 fpo, .slice da fpl.length dc, .int .i64 fno, .slice db fnl.length dd, .int .i64 (GN : Int), .int .i64 0] 75 (0, 0))) → ¬ (j = pr ∨ j = rx) := fun j hj => by
            rintro (e | e)
            · exact block_ne hj HRX.out.br.box (by decide) e
            · exact block_ne hj HRX.out.row (by decide) e
          have HQ9 := Lib.hid (hkr.same HQD.out (hne _ HQD.out))
          have HD9 := Lib.hid (show HistAt w9 ⟨fsc, fze, fpo, fpl, fno, fnl⟩ (.slice da fpl.length dc) (.slice db fnl.length dd) from HDA.out.kept hkr (HDB.out.1) (HDB.out.2))
          have HO9 := Lib.hid (And.intro (o1.down HT8.out.kept.size) (o2.down HT8.out.kept.size))
          clear hq o1 o2 hrd hkr hne
          obtain ⟨wa, hwa⟩ : ∃ w', w' = w9.alloc (.cells #[.int .i64 fsc, .int .u64 (fze : Int), .int .i64 fpo, .slice ab2 fpl.length cb2, .int .i64 fno, .slice an2 fnl.length cn2] 62) := ⟨_, rfl⟩
          have ka : Kept (fun _ => False) w9 wa := by rw [hwa]; exact (Kept.refl _ _).alloc _
          obtain ⟨qh, hqh⟩ : ∃ q, q = w9.heap.size := ⟨_, rfl⟩
          have HRB := Lib.hid (show (Value.slice ra m rc).ownBlock ≠ some qh from fun e => by have := (ownsRow_lt HT9.out.row.own e).1; omega)
          have HQH := Lib.hid (show HistBox wa qh ⟨fsc, fze, fpo, fpl, fno, fnl⟩ (.slice ab2 fpl.length cb2) (.slice an2 fnl.length cn2) by rw [hwa, hqh]; exact heap_alloc_new w9 _)
          have HTa := Lib.hid (HT9.out.on ka)
          have HQa := Lib.hid (ka.same HQ9.out (fun x => x))
          have HDa := Lib.hid (HD9.out.on ka)
          have HOa := Lib.hid (And.intro (HO9.out.1.kept ka (fun _ _ x => x)) (HO9.out.2.kept ka (fun _ _ x => x)))
          have HWA := Lib.hid hwa
          clear ka hwa
          go_upto_region 18 with fail
          rw [← HWA.out, ← hqh]
          clear hqh
          obtain ⟨wb, hwb⟩ : ∃ w', w' = wa.drew := ⟨_, rfl⟩
          have kb : Kept (fun _ => False) wa wb := by rw [hwb]; exact (Kept.refl _ _).drew
          have HKb := Lib.hid kb
          have HWB := Lib.hid hwb
          clear kb hwb
          have HSSa : Hid ((fun w' => w'.cell? ⟨qh, 0, none⟩ = some (.int .i64 fsc) ∧ w'.cell? ⟨qh, 1, none⟩ = some (.int .u64 (fze : Int)) ∧ w'.cell? ⟨qh, 2, none⟩ = some (.int .i64 fpo) ∧ w'.cell? ⟨qh, 3, none⟩ = some (.slice ab2 fpl.length cb2) ∧ w'.cell? ⟨qh, 4, none⟩ = some (.int .i64 fno) ∧ w'.cell? ⟨qh, 5, none⟩ = some (.slice an2 fnl.length cn2) ∧ w'.cell? ⟨qd, 0, none⟩ = some (.int .i64 fsc) ∧ w'.cell? ⟨qd, 1, none⟩ = some (.int .u64 (fze : Int)) ∧ w'.cell? ⟨qd, 2, none⟩ = some (.int .i64 fpo) ∧ w'.cell? ⟨qd, 3, none⟩ = some (.slice da fpl.length dc) ∧ w'.cell? ⟨qd, 4, none⟩ = some (.int .i64 fno) ∧ w'.cell? ⟨qd, 5, none⟩ = some (.slice db fnl.length dd) ∧ w'.cell? ⟨qd, 6, none⟩ = some (.int .i64 (GN : Int)) ∧ w'.cell? ⟨qd, 7, none⟩ = some (.int .i64 0)) wb) := by
            obtain ⟨x0, x1, x2, x3, x4, x5⟩ := HistBox.c (h := ⟨fsc, fze, fpo, fpl, fno, fnl⟩) (HistBox.same HQH.out HKb.out (fun x => x))
            have hb := HKb.out.same HQa.out (fun x => x)
            dsimp only [zeroH] at x0 x1 x2 x3 x4 x5
            have z0 : wb.cell? ⟨qd, 0, none⟩ = some (.int .i64 fsc) := (cell_of_row _ qd 0 _ _ _ hb).trans rfl
            have z1 : wb.cell? ⟨qd, 1, none⟩ = some (.int .u64 (fze : Int)) := (cell_of_row _ qd 1 _ _ _ hb).trans rfl
            have z2 : wb.cell? ⟨qd, 2, none⟩ = some (.int .i64 fpo) := (cell_of_row _ qd 2 _ _ _ hb).trans rfl
            have z3 : wb.cell? ⟨qd, 3, none⟩ = some (.slice da fpl.length dc) := (cell_of_row _ qd 3 _ _ _ hb).trans rfl
            have z4 : wb.cell? ⟨qd, 4, none⟩ = some (.int .i64 fno) := (cell_of_row _ qd 4 _ _ _ hb).trans rfl
            have z5 : wb.cell? ⟨qd, 5, none⟩ = some (.slice db fnl.length dd) := (cell_of_row _ qd 5 _ _ _ hb).trans rfl
            have z6 : wb.cell? ⟨qd, 6, none⟩ = some (.int .i64 (GN : Int)) := (cell_of_row _ qd 6 _ _ _ hb).trans rfl
            have z7 : wb.cell? ⟨qd, 7, none⟩ = some (.int .i64 0) := (cell_of_row _ qd 7 _ _ _ hb).trans rfl
            exact Lib.hid ⟨x0, x1, x2, x3, x4, x5, z0, z1, z2, z3, z4, z5, z6, z7⟩
          have HSSb := HSSa
          rw [HWB.out] at HSSb
          refine AnyBut.start (S := fun w' => w'.cell? ⟨qh, 0, none⟩ = some (.int .i64 fsc) ∧ w'.cell? ⟨qh, 1, none⟩ = some (.int .u64 (fze : Int)) ∧ w'.cell? ⟨qh, 2, none⟩ = some (.int .i64 fpo) ∧ w'.cell? ⟨qh, 3, none⟩ = some (.slice ab2 fpl.length cb2) ∧ w'.cell? ⟨qh, 4, none⟩ = some (.int .i64 fno) ∧ w'.cell? ⟨qh, 5, none⟩ = some (.slice an2 fnl.length cn2) ∧ w'.cell? ⟨qd, 0, none⟩ = some (.int .i64 fsc) ∧ w'.cell? ⟨qd, 1, none⟩ = some (.int .u64 (fze : Int)) ∧ w'.cell? ⟨qd, 2, none⟩ = some (.int .i64 fpo) ∧ w'.cell? ⟨qd, 3, none⟩ = some (.slice da fpl.length dc) ∧ w'.cell? ⟨qd, 4, none⟩ = some (.int .i64 fno) ∧ w'.cell? ⟨qd, 5, none⟩ = some (.slice db fnl.length dd) ∧ w'.cell? ⟨qd, 6, none⟩ = some (.int .i64 (GN : Int)) ∧ w'.cell? ⟨qd, 7, none⟩ = some (.int .i64 0)) (k := 20) (by kernel_rfl) ?_
          refine AnyBut.takeS (i := 0) (v := ?v1) rfl (by kernel_rfl) (Nat.le_of_eq (by kernel_rfl)) (by kernel_rfl) (by kernel_rfl) (fun _ _ _ h => h) (HSSb.out) (Or.inl ⟨by kernel_rfl, ?hy1⟩) ?r1
          case hy1 =>
            intro w hSw
            try dsimp only at hSw
            go_simp
            try with_reducible rfl
          try simp only [Act.put, List.getElem_toArray, List.getElem_cons_zero, List.setIfInBounds_toArray, List.set_cons_zero, List.set_cons_succ]
          refine AnyBut.takeS (i := 1) (v := ?v2) rfl (by kernel_rfl) (Nat.le_of_eq (by kernel_rfl)) (by kernel_rfl) (by kernel_rfl) (fun _ _ _ h => h) (HSSb.out) (Or.inl ⟨by kernel_rfl, ?hy2⟩) ?r2
          case hy2 =>
            intro w hSw
            try dsimp only at hSw
            go_simp
            try with_reducible rfl
          try simp only [Act.put, List.getElem_toArray, List.getElem_cons_succ, List.getElem_cons_zero, List.setIfInBounds_toArray, List.set_cons_zero, List.set_cons_succ]
          refine AnyBut.takeS (i := 2) (v := ?v3) rfl (by kernel_rfl) (Nat.le_of_eq (by kernel_rfl)) (by kernel_rfl) (by kernel_rfl) (fun _ _ _ h => h) (HSSb.out) (Or.inl ⟨by kernel_rfl, ?hy3⟩) ?r3
          case hy3 =>
            intro w hSw
            try dsimp only at hSw
            go_simp
            try with_reducible rfl
          try simp only [Act.put, List.getElem_toArray, List.getElem_cons_succ, List.getElem_cons_zero, List.setIfInBounds_toArray, List.set_cons_zero, List.set_cons_succ]
          refine AnyBut.takeS (i := 3) (v := ?v4) rfl (by kernel_rfl) (Nat.le_of_eq (by kernel_rfl)) (by kernel_rfl) (by kernel_rfl) (fun _ _ _ h => h) (HSSb.out) (Or.inl ⟨by kernel_rfl, ?hy4⟩) ?r4
          case hy4 =>
            intro w hSw
            try dsimp only at hSw
            go_simp
            try with_reducible rfl
          try simp only [Act.put, List.getElem_toArray, List.getElem_cons_succ, List.getElem_cons_zero, List.setIfInBounds_toArray, List.set_cons_zero, List.set_cons_succ]
          refine AnyBut.takeS (i := 4) (v := ?v5) rfl (by kernel_rfl) (Nat.le_of_eq (by kernel_rfl)) (by kernel_rfl) (by kernel_rfl) (fun _ _ _ h => h) (HSSb.out) (Or.inl ⟨by kernel_rfl, ?hy5⟩) ?r5
          case hy5 =>
            intro w hSw
            try dsimp only at hSw
            go_simp
            try with_reducible rfl
          try simp only [Act.put, List.getElem_toArray, List.getElem_cons_succ, List.getElem_cons_zero, List.setIfInBounds_toArray, List.set_cons_zero, List.set_cons_succ]
          refine AnyBut.takeS (i := 5) (v := ?v6) rfl (by kernel_rfl) (Nat.le_of_eq (by kernel_rfl)) (by kernel_rfl) (by kernel_rfl) (fun _ _ _ h => h) (HSSb.out) (Or.inl ⟨by kernel_rfl, ?hy6⟩) ?r6
          case hy6 =>
            intro w hSw
            try dsimp only at hSw
            go_simp
            try with_reducible rfl
          try simp only [Act.put, List.getElem_toArray, List.getElem_cons_succ, List.getElem_cons_zero, List.setIfInBounds_toArray, List.set_cons_zero, List.set_cons_succ]
          refine AnyBut.takeS (i := 6) (v := ?v7) rfl (by kernel_rfl) (Nat.le_of_eq (by kernel_rfl)) (by kernel_rfl) (by kernel_rfl) (fun _ _ _ h => h) (HSSb.out) (Or.inl ⟨by kernel_rfl, ?hy7⟩) ?r7
          case hy7 =>
            intro w hSw
            try dsimp only at hSw
            go_simp
            try with_reducible rfl
          try simp only [Act.put, List.getElem_toArray, List.getElem_cons_succ, List.getElem_cons_zero, List.setIfInBounds_toArray, List.set_cons_zero, List.set_cons_succ]
          refine AnyBut.takeS (i := 7) (v := ?v8) rfl (by kernel_rfl) (Nat.le_of_eq (by kernel_rfl)) (by kernel_rfl) (by kernel_rfl) (fun _ _ _ h => h) (HSSb.out) (Or.inl ⟨by kernel_rfl, ?hy8⟩) ?r8
          case hy8 =>
            intro w hSw
            try dsimp only at hSw
            go_simp
            try with_reducible rfl
          try simp only [Act.put, List.getElem_toArray, List.getElem_cons_succ, List.getElem_cons_zero, List.setIfInBounds_toArray, List.set_cons_zero, List.set_cons_succ]
          refine AnyBut.one (i := 8) (by kernel_rfl) rfl (fun K hK => ?_)
          go_simp
          rw [← HWB.out]
          go_wp2_with fail
          refine (HSAM.out wb _ _ _ _ (show HistAt wb ⟨fsc, fze, fpo, fpl, fno, fnl⟩ (.slice ab2 fpl.length cb2) (.slice an2 fnl.length cn2) from ⟨(HOa.out.1.kept HKb.out (fun _ _ x => x)).at_, (HOa.out.2.kept HKb.out (fun _ _ x => x)).at_⟩) (HDa.out.on HKb.out)).mono ?_
          rintro e wc ⟨rfl, kc⟩
          have HKc := Lib.hid (HKb.out.trans kc)
          clear kc
          have HSSc : Hid ((fun w' => w'.cell? ⟨qh, 0, none⟩ = some (.int .i64 fsc) ∧ w'.cell? ⟨qh, 1, none⟩ = some (.int .u64 (fze : Int)) ∧ w'.cell? ⟨qh, 2, none⟩ = some (.int .i64 fpo) ∧ w'.cell? ⟨qh, 3, none⟩ = some (.slice ab2 fpl.length cb2) ∧ w'.cell? ⟨qh, 4, none⟩ = some (.int .i64 fno) ∧ w'.cell? ⟨qh, 5, none⟩ = some (.slice an2 fnl.length cn2) ∧ w'.cell? ⟨qd, 0, none⟩ = some (.int .i64 fsc) ∧ w'.cell? ⟨qd, 1, none⟩ = some (.int .u64 (fze : Int)) ∧ w'.cell? ⟨qd, 2, none⟩ = some (.int .i64 fpo) ∧ w'.cell? ⟨qd, 3, none⟩ = some (.slice da fpl.length dc) ∧ w'.cell? ⟨qd, 4, none⟩ = some (.int .i64 fno) ∧ w'.cell? ⟨qd, 5, none⟩ = some (.slice db fnl.length dd) ∧ w'.cell? ⟨qd, 6, none⟩ = some (.int .i64 (GN : Int)) ∧ w'.cell? ⟨qd, 7, none⟩ = some (.int .i64 0)) wc) := by
            obtain ⟨x0, x1, x2, x3, x4, x5⟩ := HistBox.c (h := ⟨fsc, fze, fpo, fpl, fno, fnl⟩) (HistBox.same HQH.out HKc.out (fun x => x))
            have hb := HKc.out.same HQa.out (fun x => x)
            dsimp only [zeroH] at x0 x1 x2 x3 x4 x5
            have z0 : wc.cell? ⟨qd, 0, none⟩ = some (.int .i64 fsc) := (cell_of_row _ qd 0 _ _ _ hb).trans rfl
            have z1 : wc.cell? ⟨qd, 1, none⟩ = some (.int .u64 (fze : Int)) := (cell_of_row _ qd 1 _ _ _ hb).trans rfl
            have z2 : wc.cell? ⟨qd, 2, none⟩ = some (.int .i64 fpo) := (cell_of_row _ qd 2 _ _ _ hb).trans rfl
            have z3 : wc.cell? ⟨qd, 3, none⟩ = some (.slice da fpl.length dc) := (cell_of_row _ qd 3 _ _ _ hb).trans rfl
            have z4 : wc.cell? ⟨qd, 4, none⟩ = some (.int .i64 fno) := (cell_of_row _ qd 4 _ _ _ hb).trans rfl
            have z5 : wc.cell? ⟨qd, 5, none⟩ = some (.slice db fnl.length dd) := (cell_of_row _ qd 5 _ _ _ hb).trans rfl
            have z6 : wc.cell? ⟨qd, 6, none⟩ = some (.int .i64 (GN : Int)) := (cell_of_row _ qd 6 _ _ _ hb).trans rfl
            have z7 : wc.cell? ⟨qd, 7, none⟩ = some (.int .i64 0) := (cell_of_row _ qd 7 _ _ _ hb).trans rfl
            exact Lib.hid ⟨x0, x1, x2, x3, x4, x5, z0, z1, z2, z3, z4, z5, z6, z7⟩
          have HTc := Lib.hid (HTa.out.on HKc.out)
          obtain ⟨_, _, hrdc⟩ := HTc.out.rd
          have HAT := Lib.hid (bat_any _ _ _ _ _ _ hrdc.br)
          clear hrdc
          go_wp2
          refine hK.out _ _ (HSSc.out) ?_
          clear hK K
          try simp only [Act.put, List.getElem_toArray, List.getElem_cons_succ, List.getElem_cons_zero, List.setIfInBounds_toArray, List.set_cons_zero, List.set_cons_succ]
          refine AnyBut.takeS (i := 9) (v := ?v9) rfl (by kernel_rfl) (Nat.le_of_eq (by kernel_rfl)) (by kernel_rfl) (by kernel_rfl) (fun _ _ _ h => h) (HSSc.out) (Or.inl ⟨by kernel_rfl, ?hy9⟩) ?r9
          case hy9 =>
            intro w hSw
            try dsimp only at hSw
            go_simp
            try with_reducible rfl
          try simp only [Act.put, List.getElem_toArray, List.getElem_cons_succ, List.getElem_cons_zero, List.setIfInBounds_toArray, List.set_cons_zero, List.set_cons_succ]
          refine AnyBut.takeS (i := 10) (v := ?v10) rfl (by kernel_rfl) (Nat.le_of_eq (by kernel_rfl)) (by kernel_rfl) (by kernel_rfl) (fun _ _ _ h => h) (HSSc.out) (Or.inl ⟨by kernel_rfl, ?hy10⟩) ?r10
          case hy10 =>
            intro w hSw
            try dsimp only at hSw
            go_simp
            try with_reducible rfl
          try simp only [Act.put, List.getElem_toArray, List.getElem_cons_succ, List.getElem_cons_zero, List.setIfInBounds_toArray, List.set_cons_zero, List.set_cons_succ]
          refine AnyBut.takeS (i := 11) (v := ?v11) rfl (by kernel_rfl) (Nat.le_of_eq (by kernel_rfl)) (by kernel_rfl) (by kernel_rfl) (fun _ _ _ h => h) (HSSc.out) (Or.inl ⟨by kernel_rfl, ?hy11⟩) ?r11
          case hy11 =>
            intro w hSw
            try dsimp only at hSw
            go_simp
            try with_reducible rfl
          try simp only [Act.put, List.getElem_toArray, List.getElem_cons_succ, List.getElem_cons_zero, List.setIfInBounds_toArray, List.set_cons_zero, List.set_cons_succ]
          refine AnyBut.takeS (i := 12) (v := ?v12) rfl (by kernel_rfl) (Nat.le_of_eq (by kernel_rfl)) (by kernel_rfl) (by kernel_rfl) (fun _ _ _ h => h) (HSSc.out) (Or.inl ⟨by kernel_rfl, ?hy12⟩) ?r12
          case hy12 =>
            intro w hSw
            try dsimp only at hSw
            go_simp
            try with_reducible rfl
          try simp only [Act.put, List.getElem_toArray, List.getElem_cons_succ, List.getElem_cons_zero, List.setIfInBounds_toArray, List.set_cons_zero, List.set_cons_succ]
          refine AnyBut.takeS (i := 14) (v := ?v13) rfl (by kernel_rfl) (Nat.le_of_eq (by kernel_rfl)) (by kernel_rfl) (by kernel_rfl) (fun _ _ _ h => h) (HSSc.out) (Or.inl ⟨by kernel_rfl, ?hy13⟩) ?r13
          case hy13 =>
            intro w hSw
            try dsimp only at hSw
            go_simp
            try with_reducible rfl
          try simp only [Act.put, List.getElem_toArray, List.getElem_cons_succ, List.getElem_cons_zero, List.setIfInBounds_toArray, List.set_cons_zero, List.set_cons_succ]
          refine AnyBut.takeS (i := 15) (v := ?v14) rfl (by kernel_rfl) (Nat.le_of_eq (by kernel_rfl)) (by kernel_rfl) (by kernel_rfl) (fun _ _ _ h => h) (HSSc.out) (Or.inl ⟨by kernel_rfl, ?hy14⟩) ?r14
          case hy14 =>
            intro w hSw
            try dsimp only at hSw
            go_simp
            try with_reducible rfl
          try simp only [Act.put, List.getElem_toArray, List.getElem_cons_succ, List.getElem_cons_zero, List.setIfInBounds_toArray, List.set_cons_zero, List.set_cons_succ]
          refine AnyBut.takeS (i := 16) (v := ?v15) rfl (by kernel_rfl) (Nat.le_of_eq (by kernel_rfl)) (by kernel_rfl) (by kernel_rfl) (fun _ _ _ h => h) (HSSc.out) (Or.inl ⟨by kernel_rfl, ?hy15⟩) ?r15
          case hy15 =>
            intro w hSw
            try dsimp only at hSw
            go_simp
            try with_reducible rfl
          try simp only [Act.put, List.getElem_toArray, List.getElem_cons_succ, List.getElem_cons_zero, List.setIfInBounds_toArray, List.set_cons_zero, List.set_cons_succ]
          refine AnyBut.takeS (i := 17) (v := ?v16) rfl (by kernel_rfl) (Nat.le_of_eq (by kernel_rfl)) (by kernel_rfl) (by kernel_rfl) (fun _ _ _ h => h) (HSSc.out) (Or.inl ⟨by kernel_rfl, ?hy16⟩) ?r16
          case hy16 =>
            intro w hSw
            try dsimp only at hSw
            go_simp
            try with_reducible rfl
          try simp only [Act.put, List.getElem_toArray, List.getElem_cons_succ, List.getElem_cons_zero, List.setIfInBounds_toArray, List.set_cons_zero, List.set_cons_succ]
          refine AnyBut.one (i := 13) (by kernel_rfl) rfl (fun K hK => ?_)
          go_simp
          go_wp2_with fail
          refine HAT.out.mono ?_
          rintro e w' ⟨rfl, rfl⟩
          go_wp2
          refine hK.out _ _ (HSSc.out) ?_
          clear hK K
          try simp only [Act.put, List.getElem_toArray, List.getElem_cons_succ, List.getElem_cons_zero, List.setIfInBounds_toArray, List.set_cons_zero, List.set_cons_succ]
          refine AnyBut.takeS (i := 18) (v := ?v17) rfl (by kernel_rfl) (Nat.le_of_eq (by kernel_rfl)) (by kernel_rfl) (by kernel_rfl) (fun _ _ _ h => h) (HSSc.out) (Or.inl ⟨by kernel_rfl, ?hy17⟩) ?r17
          case hy17 =>
            intro w hSw
            try dsimp only at hSw
            go_simp
            try with_reducible rfl
          try simp only [Act.put, List.getElem_toArray, List.getElem_cons_succ, List.getElem_cons_zero, List.setIfInBounds_toArray, List.set_cons_zero, List.set_cons_succ]
          refine AnyBut.takeS (i := 19) (v := ?v18) rfl (by kernel_rfl) (Nat.le_of_eq (by kernel_rfl)) (by kernel_rfl) (by kernel_rfl) (fun _ _ _ h => h) (HSSc.out) (Or.inl ⟨by kernel_rfl, ?hy18⟩) ?r18
          case hy18 =>
            intro w hSw
            try dsimp only at hSw
            go_simp
            try with_reducible rfl
          try simp only [Act.put, List.getElem_toArray, List.getElem_cons_succ, List.getElem_cons_zero, List.setIfInBounds_toArray, List.set_cons_zero, List.set_cons_succ]
          refine AnyBut.done (by kernel_rfl) ?_
          have HOc := Lib.hid (And.intro (HOa.out.1.kept HKc.out (fun _ _ x => x)) (HOa.out.2.kept HKc.out (fun _ _ x => x)))
          have HQc := Lib.hid (HistBox.same HQH.out HKc.out (fun x => x))
          obtain ⟨x0, x1, x2, x3, x4, x5⟩ := HistBox.c (h := ⟨fsc, fze, fpo, fpl, fno, fnl⟩) HQc.out
          dsimp only at x0 x1 x2 x3 x4 x5
          have xa := fun o => (show ∀ (j : Nat) (u : Value), wc.cell? ⟨qh, j, none⟩ = some u → (wc.alloc o).cell? ⟨qh, j, none⟩ = some u from fun j u h => ((Kept.refl (fun _ => False) wc).alloc o).cell h (fun x => x))
          have y6 : wc.cell? ⟨qd, 6, none⟩ = some (.int .i64 (GN : Int)) := (cell_of_row _ qd 6 _ _ _ (HKc.out.same HQa.out (fun x => x))).trans rfl
          have ke : Kept (fun _ => False) wc (wc.alloc (.cells (cellsH ⟨⟨fsc, fze, fpo, fpl, fno, fnl⟩, ab2, cb2, an2, cn2⟩).toArray 62)) := (Kept.refl _ _).alloc _
          have HTe := Lib.hid (HTc.out.on ke)
          have HQe := Lib.hid (HistBox.same HQc.out ke (fun x => x))
          have HOe := Lib.hid (And.intro (HOc.out.1.kept ke (fun _ _ x => x)) (HOc.out.2.kept ke (fun _ _ x => x)))
          have HSe := Lib.hid (src_oneH wc ⟨⟨fsc, fze, fpo, fpl, fno, fnl⟩, ab2, cb2, an2, cn2⟩)
          unfold cellsH at HTe HQe HOe HSe
          dsimp only at HTe HQe HOe HSe
          clear ke
          have HLT := Lib.hid (show Hs.length + 1 ≤ 1000000000 by have := HMM.out; have := HNS.out; have := HD.out; omega)
          have hrow := HTe.out.row
          have HROW := Lib.hid hrow
          clear hrow
          have HOX := HOe
          go_upto_region 26 with (at_builtin; refine wpList_mineH rfl (.tmp 104) (.tmp 106) rfl W _ _ rfl HROW.out _ ⟨⟨fsc, fze, fpo, fpl, fno, fnl⟩, ab2, cb2, an2, cn2⟩ rfl HSe.out HLT.out ?_; intro vf wf hmf hkf; have HTf := Lib.hid (HTe.out.rowTo (P := ⟨⟨fsc, fze, fpo, fpl, fno, fnl⟩, ab2, cb2, an2, cn2⟩) ⟨HOe.out.1, HOe.out.2, HGF.out.1, HGF.out.2.1⟩ hmf hkf); have HQf := Lib.hid (HistBox.same HQe.out hkf HRB.out); have HOf := Lib.hid (And.intro (ownU_blk HOe.out.1 hkf (Blk.of HROW.out.own (by decide))) (ownU_blk HOe.out.2 hkf (Blk.of HROW.out.own (by decide)))); clear hmf hkf)
          clear x0 x1 x2 x3 x4 x5 xa y6
          obtain ⟨x0, x1, x2, x3, x4, x5⟩ := HistBox.c (h := ⟨fsc, fze, fpo, fpl, fno, fnl⟩) HQf.out
          dsimp only at x0 x1 x2 x3 x4 x5
          obtain ⟨vw, hp, hn', hwr, hvw⟩ := HTf.out.wr
          have HWR := Lib.hid hwr
          have HVW := Lib.hid hvw
          have HPUT := Lib.hid (hput_any W wf pw ry m vw hp hn' (.slice ab2 fpl.length cb2) (.slice an2 fnl.length cn2) (bs.take t) (lastH Hs) ⟨fsc, fze, fpo, fpl, fno, fnl⟩ hwr ⟨HOf.out.1.at_, HOf.out.2.at_⟩ (apart_own hwr HOf.out.1 HOf.out.2) HGF.out.1 HW0.out (by have := HNS.out; omega) (by rw [List.length_take]; have := HBL.out; have := HNN.out; omega) (by have := HGF.out.2.2.1; dsimp only at this ⊢; omega) (by have := HGF.out.2.2.2; dsimp only at this ⊢; omega) HLA.out.2.1 HLA.out.2.2 HTT.out)
          rw [HGF.out.2.1] at HPUT
          unfold histV at HPUT
          dsimp only at HPUT
          clear hwr hvw
          go_wp2_with fail
          refine HPUT.out.mono ?_
          rintro e wg ⟨rfl, hpt⟩
          have hpt2 : PutTo W wf wg pw ry vw (bs.take t ++ nextH m (lastH Hs) ⟨fsc, fze, fpo, fpl, fno, fnl⟩) (m + 1) ⟨fsc, fze, fpo, fpl, fno, fnl⟩ := by rcases hpt with ⟨h, _⟩ | ⟨_, h⟩; exact absurd rfl h; exact h
          rw [← HTK2.out] at hpt2
          have HTg := Lib.hid (HTf.out.wrTo HWR.out HVW.out hpt2)
          clear hpt hpt2 x0 x1 x2 x3 x4 x5
          go_wp2
          go_roundg (n - (Hs ++ [(⟨⟨fsc, fze, fpo, fpl, fno, fnl⟩, ab2, cb2, an2, cn2⟩ : HP)]).length)
          case measure => have := HD.out; have := HMM.out; simp; omega
          case rel => exact ⟨t2, Hs ++ [⟨⟨fsc, fze, fpo, fpl, fno, fnl⟩, ab2, cb2, an2, cn2⟩], by have := HD.out; have := HMM.out; simp; omega, rfl, by rw [List.length_append, ← HMM.out]; go_num, rfl, by rw [List.length_append, ← HMM.out, lastH_snoc]; exact HTg.out, HT2.out.2⟩
        · have hee : errG (GH, GN, GE) = (zeroH, 0, GE) := errG_bad hE
          rw [hee] at HDG
          have HE0 := Lib.hid hE
          have a2 : IntKind.i64.wrap (t : Int) = (t : Int) := by have := HNN.out; have := HBL.out; rw [IntWalk.i64_in _ ⟨by omega, by omega⟩]
          have et : ((t : Int) != (t : Int)) = false := bneF rfl
          have ee : ((GE : Int) != (GE : Int)) = false := bneF rfl
          have em : ((m : Int) != (m : Int)) = false := bneF rfl
          have ez : ((GE : Int) != 0) = true := bneT (by omega)
          have HSAM := Lib.hid fun w' p1 n1 p2 n2 (k1 : HistAt w' zeroH p1 n1) (k2 : HistAt w' zeroH p2 n2) => refSame_any zeroH zeroH p1 n1 p2 n2 w' k1 k2 (Nat.zero_le _) (Nat.zero_le _)
          rw [decide_eq_true ((sameH_iff zeroH zeroH).mpr rfl)] at HSAM
          unfold histV at HSAM
          dsimp only [zeroH] at HSAM
          clear hee hE HFIT
          rw [← hm]
          clear hm htl
          go_wp2_with fail
          refine HDG.out.mono ?_
          rintro e w7 ⟨pd, nd, rfl, hda, hnc, k7⟩
          unfold got10V
          obtain ⟨⟨da, dc, rfl⟩, db, dd, rfl⟩ := hda.sl
          dsimp only [zeroH] at hda ⊢
          have HT7 := Lib.hid (show TK W w7 X pr rx pw ry rv bs (.slice lo Nb lc) (.slice ra m rc) t m (lastH Hs) (bs.take t) m (lastH Hs) Hs from by have := HI.out.on k7; rw [← HMM.out] at this; exact this)
          obtain ⟨w8, hw8⟩ : ∃ w', w' = w7.alloc (.cells #[.int .i64 0, .int .u64 0, .int .i64 0, .slice da 0 dc, .int .i64 0, .slice db 0 dd, .int .i64 0, .int .i64 (GE : Int)] 75) := ⟨_, rfl⟩
          have k8 : Kept (fun _ => False) w7 w8 := by rw [hw8]; exact (Kept.refl _ _).alloc _
          obtain ⟨qd, hqd⟩ : ∃ q, q = w7.heap.size := ⟨_, rfl⟩
          have HQD := Lib.hid (show w8.heap[qd]? = some (.cells #[.int .i64 0, .int .u64 0, .int .i64 0, .slice da 0 dc, .int .i64 0, .slice db 0 dd, .int .i64 0, .int .i64 (GE : Int)] 75 (0, 0)) by rw [hw8, hqd]; exact heap_alloc_new w7 _)
          have HT8 := Lib.hid (HT7.out.on k8)
          have HDA := Lib.hid (show HistAt w8 zeroH (.slice da 0 dc) (.slice db 0 dd) from hda.on k8)
          have HW8 := Lib.hid hw8
          clear hda hnc k7 k8 hw8
          go_upto_region 17 with fail
          rw [← HW8.out, ← hqd]
          clear hqd
          obtain ⟨_, gpx, gnx, hrx, hcall⟩ := HGET.out w8 HT8.out
          have HRX := Lib.hid hrx
          have HCALL := Lib.hid hcall
          clear hrx hcall
          go_wp2_with fail
          refine HCALL.out.mono ?_
          rintro e w9 hq
          obtain ⟨rfl, hk9⟩ : e = .returned (.tuple #[histV zeroH (.slice none 0 0) (.slice none 0 0), .int .i64 (GE : Int)]) ∧ Kept (fun _ => False) w8 w9 := by
            rcases hq with ⟨_, h1, h2⟩ | ⟨h, _⟩
            · exact ⟨h1, h2⟩
            · exact absurd h HE0.out
          unfold histV
          dsimp only [zeroH]
          have HT9 := Lib.hid (HT8.out.on hk9)
          have HQ9 := Lib.hid (hk9.same HQD.out (fun x => x))
          have HD9 := Lib.hid (show HistAt w9 zeroH (.slice da 0 dc) (.slice db 0 dd) from HDA.out.on hk9)
          clear hq hk9
          obtain ⟨wa, hwa⟩ : ∃ w', w' = w9.alloc (.cells #[.int .i64 0, .int .u64 0, .int .i64 0, .slice none 0 0, .int .i64 0, .slice none 0 0] 62) := ⟨_, rfl⟩
          have ka : Kept (fun _ => False) w9 wa := by rw [hwa]; exact (Kept.refl _ _).alloc _
          obtain ⟨qh, hqh⟩ : ∃ q, q = w9.heap.size := ⟨_, rfl⟩
          have HRB := Lib.hid (show (Value.slice ra m rc).ownBlock ≠ some qh from fun e => by have := (ownsRow_lt HT9.out.row.own e).1; omega)
          have HQH := Lib.hid (show HistBox wa qh zeroH (.slice none 0 0) (.slice none 0 0) by rw [hwa, hqh]; exact heap_alloc_new w9 _)
          have HTa := Lib.hid (HT9.out.on ka)
          have HQa := Lib.hid (ka.same HQ9.out (fun x => x))
          have HDa := Lib.hid (HD9.out.on ka)
          have HWA := Lib.hid hwa
          clear ka hwa
          go_upto_region 18 with fail
          rw [← HWA.out, ← hqh]
          clear hqh
          obtain ⟨wb, hwb⟩ : ∃ w', w' = wa.drew := ⟨_, rfl⟩
          have kb : Kept (fun _ => False) wa wb := by rw [hwb]; exact (Kept.refl _ _).drew
          have HKb := Lib.hid kb
          have HWB := Lib.hid hwb
          clear kb hwb
          have HSSa : Hid ((fun w' => w'.cell? ⟨qh, 0, none⟩ = some (.int .i64 0) ∧ w'.cell? ⟨qh, 1, none⟩ = some (.int .u64 0) ∧ w'.cell? ⟨qh, 2, none⟩ = some (.int .i64 0) ∧ w'.cell? ⟨qh, 3, none⟩ = some (.slice none 0 0) ∧ w'.cell? ⟨qh, 4, none⟩ = some (.int .i64 0) ∧ w'.cell? ⟨qh, 5, none⟩ = some (.slice none 0 0) ∧ w'.cell? ⟨qd, 0, none⟩ = some (.int .i64 0) ∧ w'.cell? ⟨qd, 1, none⟩ = some (.int .u64 0) ∧ w'.cell? ⟨qd, 2, none⟩ = some (.int .i64 0) ∧ w'.cell? ⟨qd, 3, none⟩ = some (.slice da 0 dc) ∧ w'.cell? ⟨qd, 4, none⟩ = some (.int .i64 0) ∧ w'.cell? ⟨qd, 5, none⟩ = some (.slice db 0 dd) ∧ w'.cell? ⟨qd, 6, none⟩ = some (.int .i64 0) ∧ w'.cell? ⟨qd, 7, none⟩ = some (.int .i64 (GE : Int))) wb) := by
            obtain ⟨x0, x1, x2, x3, x4, x5⟩ := HistBox.c (h := zeroH) (HistBox.same HQH.out HKb.out (fun x => x))
            have hb := HKb.out.same HQa.out (fun x => x)
            dsimp only [zeroH] at x0 x1 x2 x3 x4 x5
            have z0 : wb.cell? ⟨qd, 0, none⟩ = some (.int .i64 0) := (cell_of_row _ qd 0 _ _ _ hb).trans rfl
            have z1 : wb.cell? ⟨qd, 1, none⟩ = some (.int .u64 0) := (cell_of_row _ qd 1 _ _ _ hb).trans rfl
            have z2 : wb.cell? ⟨qd, 2, none⟩ = some (.int .i64 0) := (cell_of_row _ qd 2 _ _ _ hb).trans rfl
            have z3 : wb.cell? ⟨qd, 3, none⟩ = some (.slice da 0 dc) := (cell_of_row _ qd 3 _ _ _ hb).trans rfl
            have z4 : wb.cell? ⟨qd, 4, none⟩ = some (.int .i64 0) := (cell_of_row _ qd 4 _ _ _ hb).trans rfl
            have z5 : wb.cell? ⟨qd, 5, none⟩ = some (.slice db 0 dd) := (cell_of_row _ qd 5 _ _ _ hb).trans rfl
            have z6 : wb.cell? ⟨qd, 6, none⟩ = some (.int .i64 0) := (cell_of_row _ qd 6 _ _ _ hb).trans rfl
            have z7 : wb.cell? ⟨qd, 7, none⟩ = some (.int .i64 (GE : Int)) := (cell_of_row _ qd 7 _ _ _ hb).trans rfl
            exact Lib.hid ⟨x0, x1, x2, x3, x4, x5, z0, z1, z2, z3, z4, z5, z6, z7⟩
          have HSSb := HSSa
          rw [HWB.out] at HSSb
          refine AnyBut.start (S := fun w' => w'.cell? ⟨qh, 0, none⟩ = some (.int .i64 0) ∧ w'.cell? ⟨qh, 1, none⟩ = some (.int .u64 0) ∧ w'.cell? ⟨qh, 2, none⟩ = some (.int .i64 0) ∧ w'.cell? ⟨qh, 3, none⟩ = some (.slice none 0 0) ∧ w'.cell? ⟨qh, 4, none⟩ = some (.int .i64 0) ∧ w'.cell? ⟨qh, 5, none⟩ = some (.slice none 0 0) ∧ w'.cell? ⟨qd, 0, none⟩ = some (.int .i64 0) ∧ w'.cell? ⟨qd, 1, none⟩ = some (.int .u64 0) ∧ w'.cell? ⟨qd, 2, none⟩ = some (.int .i64 0) ∧ w'.cell? ⟨qd, 3, none⟩ = some (.slice da 0 dc) ∧ w'.cell? ⟨qd, 4, none⟩ = some (.int .i64 0) ∧ w'.cell? ⟨qd, 5, none⟩ = some (.slice db 0 dd) ∧ w'.cell? ⟨qd, 6, none⟩ = some (.int .i64 0) ∧ w'.cell? ⟨qd, 7, none⟩ = some (.int .i64 (GE : Int))) (k := 20) (by kernel_rfl) ?_
          refine AnyBut.takeS (i := 0) (v := ?v19) rfl (by kernel_rfl) (Nat.le_of_eq (by kernel_rfl)) (by kernel_rfl) (by kernel_rfl) (fun _ _ _ h => h) (HSSb.out) (Or.inl ⟨by kernel_rfl, ?hy19⟩) ?r19
          case hy19 =>
            intro w hSw
            try dsimp only at hSw
            go_simp
            try with_reducible rfl
          try simp only [Act.put, List.getElem_toArray, List.getElem_cons_zero, List.setIfInBounds_toArray, List.set_cons_zero, List.set_cons_succ]
          refine AnyBut.takeS (i := 1) (v := ?v20) rfl (by kernel_rfl) (Nat.le_of_eq (by kernel_rfl)) (by kernel_rfl) (by kernel_rfl) (fun _ _ _ h => h) (HSSb.out) (Or.inl ⟨by kernel_rfl, ?hy20⟩) ?r20
          case hy20 =>
            intro w hSw
            try dsimp only at hSw
            go_simp
            try with_reducible rfl
          try simp only [Act.put, List.getElem_toArray, List.getElem_cons_succ, List.getElem_cons_zero, List.setIfInBounds_toArray, List.set_cons_zero, List.set_cons_succ]
          refine AnyBut.takeS (i := 2) (v := ?v21) rfl (by kernel_rfl) (Nat.le_of_eq (by kernel_rfl)) (by kernel_rfl) (by kernel_rfl) (fun _ _ _ h => h) (HSSb.out) (Or.inl ⟨by kernel_rfl, ?hy21⟩) ?r21
          case hy21 =>
            intro w hSw
            try dsimp only at hSw
            go_simp
            try with_reducible rfl
          try simp only [Act.put, List.getElem_toArray, List.getElem_cons_succ, List.getElem_cons_zero, List.setIfInBounds_toArray, List.set_cons_zero, List.set_cons_succ]
          refine AnyBut.takeS (i := 3) (v := ?v22) rfl (by kernel_rfl) (Nat.le_of_eq (by kernel_rfl)) (by kernel_rfl) (by kernel_rfl) (fun _ _ _ h => h) (HSSb.out) (Or.inl ⟨by kernel_rfl, ?hy22⟩) ?r22
          case hy22 =>
            intro w hSw
            try dsimp only at hSw
            go_simp
            try with_reducible rfl
          try simp only [Act.put, List.getElem_toArray, List.getElem_cons_succ, List.getElem_cons_zero, List.setIfInBounds_toArray, List.set_cons_zero, List.set_cons_succ]
          refine AnyBut.takeS (i := 4) (v := ?v23) rfl (by kernel_rfl) (Nat.le_of_eq (by kernel_rfl)) (by kernel_rfl) (by kernel_rfl) (fun _ _ _ h => h) (HSSb.out) (Or.inl ⟨by kernel_rfl, ?hy23⟩) ?r23
          case hy23 =>
            intro w hSw
            try dsimp only at hSw
            go_simp
            try with_reducible rfl
          try simp only [Act.put, List.getElem_toArray, List.getElem_cons_succ, List.getElem_cons_zero, List.setIfInBounds_toArray, List.set_cons_zero, List.set_cons_succ]
          refine AnyBut.takeS (i := 5) (v := ?v24) rfl (by kernel_rfl) (Nat.le_of_eq (by kernel_rfl)) (by kernel_rfl) (by kernel_rfl) (fun _ _ _ h => h) (HSSb.out) (Or.inl ⟨by kernel_rfl, ?hy24⟩) ?r24
          case hy24 =>
            intro w hSw
            try dsimp only at hSw
            go_simp
            try with_reducible rfl
          try simp only [Act.put, List.getElem_toArray, List.getElem_cons_succ, List.getElem_cons_zero, List.setIfInBounds_toArray, List.set_cons_zero, List.set_cons_succ]
          refine AnyBut.takeS (i := 6) (v := ?v25) rfl (by kernel_rfl) (Nat.le_of_eq (by kernel_rfl)) (by kernel_rfl) (by kernel_rfl) (fun _ _ _ h => h) (HSSb.out) (Or.inl ⟨by kernel_rfl, ?hy25⟩) ?r25
          case hy25 =>
            intro w hSw
            try dsimp only at hSw
            go_simp
            try with_reducible rfl
          try simp only [Act.put, List.getElem_toArray, List.getElem_cons_succ, List.getElem_cons_zero, List.setIfInBounds_toArray, List.set_cons_zero, List.set_cons_succ]
          refine AnyBut.takeS (i := 7) (v := ?v26) rfl (by kernel_rfl) (Nat.le_of_eq (by kernel_rfl)) (by kernel_rfl) (by kernel_rfl) (fun _ _ _ h => h) (HSSb.out) (Or.inl ⟨by kernel_rfl, ?hy26⟩) ?r26
          case hy26 =>
            intro w hSw
            try dsimp only at hSw
            go_simp
            try with_reducible rfl
          try simp only [Act.put, List.getElem_toArray, List.getElem_cons_succ, List.getElem_cons_zero, List.setIfInBounds_toArray, List.set_cons_zero, List.set_cons_succ]
          refine AnyBut.one (i := 8) (by kernel_rfl) rfl (fun K hK => ?_)
          go_simp
          rw [← HWB.out]
          go_wp2_with fail
          refine (HSAM.out wb _ _ _ _ (show HistAt wb zeroH (.slice none 0 0) (.slice none 0 0) from ⟨slAt_nil _, slAt_nil _⟩) (HDa.out.on HKb.out)).mono ?_
          rintro e wc ⟨rfl, kc⟩
          have HKc := Lib.hid (HKb.out.trans kc)
          clear kc
          have HSSc : Hid ((fun w' => w'.cell? ⟨qh, 0, none⟩ = some (.int .i64 0) ∧ w'.cell? ⟨qh, 1, none⟩ = some (.int .u64 0) ∧ w'.cell? ⟨qh, 2, none⟩ = some (.int .i64 0) ∧ w'.cell? ⟨qh, 3, none⟩ = some (.slice none 0 0) ∧ w'.cell? ⟨qh, 4, none⟩ = some (.int .i64 0) ∧ w'.cell? ⟨qh, 5, none⟩ = some (.slice none 0 0) ∧ w'.cell? ⟨qd, 0, none⟩ = some (.int .i64 0) ∧ w'.cell? ⟨qd, 1, none⟩ = some (.int .u64 0) ∧ w'.cell? ⟨qd, 2, none⟩ = some (.int .i64 0) ∧ w'.cell? ⟨qd, 3, none⟩ = some (.slice da 0 dc) ∧ w'.cell? ⟨qd, 4, none⟩ = some (.int .i64 0) ∧ w'.cell? ⟨qd, 5, none⟩ = some (.slice db 0 dd) ∧ w'.cell? ⟨qd, 6, none⟩ = some (.int .i64 0) ∧ w'.cell? ⟨qd, 7, none⟩ = some (.int .i64 (GE : Int))) wc) := by
            obtain ⟨x0, x1, x2, x3, x4, x5⟩ := HistBox.c (h := zeroH) (HistBox.same HQH.out HKc.out (fun x => x))
            have hb := HKc.out.same HQa.out (fun x => x)
            dsimp only [zeroH] at x0 x1 x2 x3 x4 x5
            have z0 : wc.cell? ⟨qd, 0, none⟩ = some (.int .i64 0) := (cell_of_row _ qd 0 _ _ _ hb).trans rfl
            have z1 : wc.cell? ⟨qd, 1, none⟩ = some (.int .u64 0) := (cell_of_row _ qd 1 _ _ _ hb).trans rfl
            have z2 : wc.cell? ⟨qd, 2, none⟩ = some (.int .i64 0) := (cell_of_row _ qd 2 _ _ _ hb).trans rfl
            have z3 : wc.cell? ⟨qd, 3, none⟩ = some (.slice da 0 dc) := (cell_of_row _ qd 3 _ _ _ hb).trans rfl
            have z4 : wc.cell? ⟨qd, 4, none⟩ = some (.int .i64 0) := (cell_of_row _ qd 4 _ _ _ hb).trans rfl
            have z5 : wc.cell? ⟨qd, 5, none⟩ = some (.slice db 0 dd) := (cell_of_row _ qd 5 _ _ _ hb).trans rfl
            have z6 : wc.cell? ⟨qd, 6, none⟩ = some (.int .i64 0) := (cell_of_row _ qd 6 _ _ _ hb).trans rfl
            have z7 : wc.cell? ⟨qd, 7, none⟩ = some (.int .i64 (GE : Int)) := (cell_of_row _ qd 7 _ _ _ hb).trans rfl
            exact Lib.hid ⟨x0, x1, x2, x3, x4, x5, z0, z1, z2, z3, z4, z5, z6, z7⟩
          have HTc := Lib.hid (HTa.out.on HKc.out)
          obtain ⟨_, _, hrdc⟩ := HTc.out.rd
          have HAT := Lib.hid (bat_any _ _ _ _ _ _ hrdc.br)
          clear hrdc
          go_wp2
          refine hK.out _ _ (HSSc.out) ?_
          clear hK K
          try simp only [Act.put, List.getElem_toArray, List.getElem_cons_succ, List.getElem_cons_zero, List.setIfInBounds_toArray, List.set_cons_zero, List.set_cons_succ]
          refine AnyBut.takeS (i := 9) (v := ?v27) rfl (by kernel_rfl) (Nat.le_of_eq (by kernel_rfl)) (by kernel_rfl) (by kernel_rfl) (fun _ _ _ h => h) (HSSc.out) (Or.inl ⟨by kernel_rfl, ?hy27⟩) ?r27
          case hy27 =>
            intro w hSw
            try dsimp only at hSw
            go_simp
            try with_reducible rfl
          try simp only [Act.put, List.getElem_toArray, List.getElem_cons_succ, List.getElem_cons_zero, List.setIfInBounds_toArray, List.set_cons_zero, List.set_cons_succ]
          refine AnyBut.takeS (i := 10) (v := ?v28) rfl (by kernel_rfl) (Nat.le_of_eq (by kernel_rfl)) (by kernel_rfl) (by kernel_rfl) (fun _ _ _ h => h) (HSSc.out) (Or.inl ⟨by kernel_rfl, ?hy28⟩) ?r28
          case hy28 =>
            intro w hSw
            try dsimp only at hSw
            go_simp
            try with_reducible rfl
          try simp only [Act.put, List.getElem_toArray, List.getElem_cons_succ, List.getElem_cons_zero, List.setIfInBounds_toArray, List.set_cons_zero, List.set_cons_succ]
          refine AnyBut.takeS (i := 11) (v := ?v29) rfl (by kernel_rfl) (Nat.le_of_eq (by kernel_rfl)) (by kernel_rfl) (by kernel_rfl) (fun _ _ _ h => h) (HSSc.out) (Or.inl ⟨by kernel_rfl, ?hy29⟩) ?r29
          case hy29 =>
            intro w hSw
            try dsimp only at hSw
            go_simp
            try with_reducible rfl
          try simp only [Act.put, List.getElem_toArray, List.getElem_cons_succ, List.getElem_cons_zero, List.setIfInBounds_toArray, List.set_cons_zero, List.set_cons_succ]
          refine AnyBut.takeS (i := 12) (v := ?v30) rfl (by kernel_rfl) (Nat.le_of_eq (by kernel_rfl)) (by kernel_rfl) (by kernel_rfl) (fun _ _ _ h => h) (HSSc.out) (Or.inl ⟨by kernel_rfl, ?hy30⟩) ?r30
          case hy30 =>
            intro w hSw
            try dsimp only at hSw
            go_simp
            try with_reducible rfl
          try simp only [Act.put, List.getElem_toArray, List.getElem_cons_succ, List.getElem_cons_zero, List.setIfInBounds_toArray, List.set_cons_zero, List.set_cons_succ]
          refine AnyBut.takeS (i := 14) (v := ?v31) rfl (by kernel_rfl) (Nat.le_of_eq (by kernel_rfl)) (by kernel_rfl) (by kernel_rfl) (fun _ _ _ h => h) (HSSc.out) (Or.inl ⟨by kernel_rfl, ?hy31⟩) ?r31
          case hy31 =>
            intro w hSw
            try dsimp only at hSw
            go_simp
            try with_reducible rfl
          try simp only [Act.put, List.getElem_toArray, List.getElem_cons_succ, List.getElem_cons_zero, List.setIfInBounds_toArray, List.set_cons_zero, List.set_cons_succ]
          refine AnyBut.takeS (i := 15) (v := ?v32) rfl (by kernel_rfl) (Nat.le_of_eq (by kernel_rfl)) (by kernel_rfl) (by kernel_rfl) (fun _ _ _ h => h) (HSSc.out) (Or.inl ⟨by kernel_rfl, ?hy32⟩) ?r32
          case hy32 =>
            intro w hSw
            try dsimp only at hSw
            go_simp
            try with_reducible rfl
          try simp only [Act.put, List.getElem_toArray, List.getElem_cons_succ, List.getElem_cons_zero, List.setIfInBounds_toArray, List.set_cons_zero, List.set_cons_succ]
          refine AnyBut.takeS (i := 16) (v := ?v33) rfl (by kernel_rfl) (Nat.le_of_eq (by kernel_rfl)) (by kernel_rfl) (by kernel_rfl) (fun _ _ _ h => h) (HSSc.out) (Or.inl ⟨by kernel_rfl, ?hy33⟩) ?r33
          case hy33 =>
            intro w hSw
            try dsimp only at hSw
            go_simp
            try with_reducible rfl
          try simp only [Act.put, List.getElem_toArray, List.getElem_cons_succ, List.getElem_cons_zero, List.setIfInBounds_toArray, List.set_cons_zero, List.set_cons_succ]
          refine AnyBut.takeS (i := 17) (v := ?v34) rfl (by kernel_rfl) (Nat.le_of_eq (by kernel_rfl)) (by kernel_rfl) (by kernel_rfl) (fun _ _ _ h => h) (HSSc.out) (Or.inl ⟨by kernel_rfl, ?hy34⟩) ?r34
          case hy34 =>
            intro w hSw
            try dsimp only at hSw
            go_simp
            try with_reducible rfl
          try simp only [Act.put, List.getElem_toArray, List.getElem_cons_succ, List.getElem_cons_zero, List.setIfInBounds_toArray, List.set_cons_zero, List.set_cons_succ]
          refine AnyBut.one (i := 13) (by kernel_rfl) rfl (fun K hK => ?_)
          go_simp
          go_wp2_with fail
          refine HAT.out.mono ?_
          rintro e w' ⟨rfl, rfl⟩
          go_wp2
          refine hK.out _ _ (HSSc.out) ?_
          clear hK K
          try simp only [Act.put, List.getElem_toArray, List.getElem_cons_succ, List.getElem_cons_zero, List.setIfInBounds_toArray, List.set_cons_zero, List.set_cons_succ]
          refine AnyBut.takeS (i := 18) (v := ?v35) rfl (by kernel_rfl) (Nat.le_of_eq (by kernel_rfl)) (by kernel_rfl) (by kernel_rfl) (fun _ _ _ h => h) (HSSc.out) (Or.inl ⟨by kernel_rfl, ?hy35⟩) ?r35
          case hy35 =>
            intro w hSw
            try dsimp only at hSw
            go_simp
            try with_reducible rfl
          try simp only [Act.put, List.getElem_toArray, List.getElem_cons_succ, List.getElem_cons_zero, List.setIfInBounds_toArray, List.set_cons_zero, List.set_cons_succ]
          refine AnyBut.takeS (i := 19) (v := ?v36) rfl (by kernel_rfl) (Nat.le_of_eq (by kernel_rfl)) (by kernel_rfl) (by kernel_rfl) (fun _ _ _ h => h) (HSSc.out) (Or.inl ⟨by kernel_rfl, ?hy36⟩) ?r36
          case hy36 =>
            intro w hSw
            try dsimp only at hSw
            go_simp
            try with_reducible rfl
          try simp only [Act.put, List.getElem_toArray, List.getElem_cons_succ, List.getElem_cons_zero, List.setIfInBounds_toArray, List.set_cons_zero, List.set_cons_succ]
          refine AnyBut.done (by kernel_rfl) ?_
          obtain ⟨wd, hwd⟩ : ∃ w', w' = wc := ⟨_, rfl⟩
          obtain ⟨_, gpy, gny, hry, hcall2⟩ := HGET.out wc HTc.out
          have HCALL2 := Lib.hid hcall2
          clear hry hcall2 hwd
          have y7 : wc.cell? ⟨qd, 7, none⟩ = some (.int .i64 (GE : Int)) := (cell_of_row _ qd 7 _ _ _ (HKc.out.same HQa.out (fun x => x))).trans rfl
          go_wp2_with fail
          refine HCALL2.out.mono ?_
          rintro e we hq
          obtain ⟨rfl, hke⟩ : e = .returned (.tuple #[histV zeroH (.slice none 0 0) (.slice none 0 0), .int .i64 (GE : Int)]) ∧ Kept (fun _ => False) wc we := by
            rcases hq with ⟨_, h1, h2⟩ | ⟨h, _⟩
            · exact ⟨h1, h2⟩
            · exact absurd h HE0.out
          unfold histV
          dsimp only [zeroH]
          have y8 : we.cell? ⟨qd, 7, none⟩ = some (.int .i64 (GE : Int)) := hke.cell y7 (fun x => x)
          have HTe := Lib.hid (HTc.out.on hke)
          clear hq hke y7
          obtain ⟨_, _, hrde⟩ := HTe.out.rd
          have HLEN := Lib.hid (hlen_any _ _ _ _ _ _ hrde.row)
          clear hrde
          go_wp2_with fail
          refine HLEN.out.mono ?_
          rintro e w' ⟨rfl, rfl⟩
          go_wp2
          go_meet
          case rel => exact ⟨t, Hs, rfl, by have := HTe.out; exact HMM.out ▸ this, HTL.out⟩
      · have hdi : ¬ (m : Int) < (n : Int) := by omega
        have hdib : decide (m < n) = false := decide_eq_false hd
        rw [← hm]
        clear hm htl
        go_wp2
        go_meet
        case rel => exact ⟨t, Hs, rfl, by have := HI.out; exact HMM.out ▸ this, HTL.out⟩
  case rest =>
    obtain ⟨t, Hs, rfl, htk, htl⟩ := hcut
    have HI := Lib.hid htk
    have hlen : (bs.take t).length = t := by rw [List.length_take]; omega
    obtain ⟨vw, gp, gn, hwr, _⟩ := htk.wr
    have hbw := hwr.bw
    have HL1 := Lib.hid fun w' (h : Kept (fun _ => False) wc w') => bwlen_any _ _ _ _ w' (hbw.keptF h)
    rw [hlen] at HL1
    have hbl9 : t ≤ 960 := by have := HBL.out; have := HNN.out; omega
    have HB1 := Lib.hid fun w' (h : Kept (fun _ => False) wc w') => bytesStr _ w' _ _ _ (hbw.keptF h) (by rw [hlen]; omega)
    have hsl := (htk.bits.at_).takeH (k := t) (by have := HBL.out; omega)
    have hit : (ints bs).take t = ints (bs.take t) := by unfold ints; rw [List.map_take]
    rw [hit] at hsl
    have HR1 := Lib.hid fun w' (h : Kept (fun _ => False) wc w') => refBytesStrH _ (bs.take t) w' (hsl.kept h (fun _ _ x => x)) (by rw [hlen]; omega)
    obtain ⟨S1, hS1⟩ : ∃ S, S = strN (packB (bs.take t)) := ⟨_, rfl⟩
    rw [← hS1] at HB1 HR1
    have htc : t ≤ lc := by have := HBL.out; omega
    have s1 := fun w => run_cutH (P := Tryd.prog) Tryd.underlying26 hiI hzI1 lo Nb lc t htc w
    have s2 := fun w => run_cutHAt (P := Tryd.prog) Tryd.underlying26 hiI hzI1 lo Nb lc t htc w
    have kd : Kept (fun _ => False) wc wc.drew := (Kept.refl _ wc).drew
    have K9 := Lib.hid htk.kept
    have ett : ((t : Int) == (t : Int)) = true := by simp
    clear htl htk hwr hbw hlen hsl hit hS1 htc hbl9 HTK0
    go_wp2
    go_region_with (first
      | (go_at_call 16; refine (HL1.out _ (by assumption)).mono ?_; rintro e w' ⟨rfl, rfl⟩)
      | (go_at_call 18; refine (HR1.out _ (by assumption)).mono ?_; rintro e w7 ⟨vc, rfl, hcw, k7⟩; have kc7 := Kept.trans (show Kept (fun _ => False) wc _ from by assumption) k7; have k77 := Kept.refl (fun _ => False) w7)
      | (go_at_call 17; refine (HB1.out _ (by assumption)).mono ?_; rintro e w6 ⟨vb, rfl, hcv, k6⟩; have kc := Kept.trans (show Kept (fun _ => False) wc _ from by assumption) k6; have k66 := Kept.refl (fun _ => False) w6)
      | fail)
    all_goals
      go_wp2
      go_ret
      exact ⟨rfl, K9.out.trans (by assumption)⟩

set_option maxHeartbeats 1000000 in
theorem histbitsTakes_walk (ao : Option Addr) (la ca : Nat) (z0 : List Int) (n : Int) (W : World) (h0 : IsRow .u8 W ao la ca z0) (_hn : -9223372036854775808 ≤ n ∧ n ≤ 9223372036854775807) (HT : ClassTab W) :
    Calls Tryd.prog 8 #[.slice ao la ca, .int .i64 n] W fun e w' => e = .returned (.bool true) ∧ Kept (fun _ => False) W w' := by
  obtain ⟨l, rfl, hx, hv⟩ := h0.slAtN 256 (fun x h => by have := bd_u8 h; omega)
  by_cases hl : l.length ≤ 120 ∧ 0 ≤ n ∧ n ≤ 30
  · obtain ⟨h1, h2, h3⟩ := hl
    obtain ⟨m, rfl⟩ : ∃ m : Nat, n = m := ⟨n.toNat, by omega⟩
    exact takes10_walk0 ao ca l m W hv h1 hx (by omega) HT
  · have HA := Lib.hid (awake10_any W HT (World.block_lt_of_cell? W _ (HT 0 (by omega))))
    have hq : (120 : Int) < (l.length : Int) ∨ ((¬ (120 : Int) < (l.length : Int)) ∧ n < 0) ∨ ((¬ (120 : Int) < (l.length : Int)) ∧ (¬ n < 0) ∧ 30 < n) := by omega
    clear h0 hx hv HT hl
    rcases hq with q1 | ⟨q1, q2⟩ | ⟨q1, q2, q3⟩
    all_goals
      go_enter Tryd.func8, Tryd.ntmps8
      go_wp2_with fail
      refine HA.out.mono ?_
      rintro e w1 ⟨rfl, K1⟩
      go_wp2
      go_ret
      exact ⟨rfl, K1⟩
end Go.Proofs.YtjpnfadmblmjbaaDoor
